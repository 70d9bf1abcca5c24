/-
  Contracts and plain facts that the laws share; each piece is headed by what it holds and its conditions.
-/
import Derived.Test.YtalbcimnnihmnaaGreatQS23
import Derived.Test.YtalbcimnnihmnaaGreatQS11
import Derived.Test.YtalbcimnnihmnaaGreatQS5
import Derived.Test.YtalbcimnnihmnaaGreatQS13
import Derived.Test.YtalbcimnnihmnaaGreatQS10
import Derived.Deep.WholeRow
import Derived.Deep.RegionWith
import Derived.StillTailTactics

/- The contracts of layer 3's Put, Bytes. Conditions: as the Writer's. -/
namespace Go.Proofs.YtalbcimnnihmnaaGreat
open Go.RowKit
open M

theorem shr_zero (x n : Nat) (h : x < 2 ^ n) : (x : Int) / 2 ^ n = 0 := by
  rw [div_pow, Nat.div_eq_of_lt h]; rfl
theorem pow56 (x n : Nat) (hn : n ≤ 56) (h : x < 2 ^ n) : x < 72057594037927936 :=
  Nat.lt_of_lt_of_le h (Nat.pow_le_pow_right (n := 2) (j := 56) (by decide) hn)

theorem put_ok (x n : Nat) (bs : List Bool) (B g : Nat) (v : Value) (w : World) (hn : n ≤ 56) (hx : x < 2 ^ n) (hl : bs.length + 56 ≤ 1099511627776) (hB : B ≤ w.heap.size) (h : Wr w B g v bs) :
    Calls Tryz.prog 22 #[.pointer (some ⟨g, 0, none⟩), .int .i64 x, .int .i64 n] w fun e w' => e = .returned (.int .i64 0) ∧ ∃ v', Wr w' B g v' (bs ++ bitsOf x n) ∧ Moved w w' g v v' := by
  have H := Lib.hid h
  have hx6 := pow56 x n hn hx
  have hz : (x : Int) / 2 ^ n = 0 := shr_zero x n hx
  clear h hx
  go_enter Tryz.func22, Tryz.ntmps22
  go_wp2_with fail
  refine (split3_any x n bs B g v _ hn hx6 hl hB H.out).mono ?_
  rintro e w' ⟨rfl, v', hw, hm⟩
  have R := Lib.hid (And.intro hw hm)
  clear hw hm
  go_wp2
  go_ret
  exact ⟨rfl, v', R.out.1, R.out.2⟩

theorem put_arg (x n : Int) (p : Option Addr) (w : World) (hn : n < 0 ∨ 56 < n) :
    Calls Tryz.prog 22 #[.pointer p, .int .i64 x, .int .i64 n] w fun e w' => e = .returned (.int .i64 1) ∧ w' = w := by
  rcases p with _ | p
  · go_enter Tryz.func22, Tryz.ntmps22
    go_wp2
    go_ret
    exact ⟨rfl, rfl⟩
  · by_cases h0 : n < 0
    · go_enter Tryz.func22, Tryz.ntmps22
      go_wp2
      go_ret
      exact ⟨rfl, rfl⟩
    · have h1 : 56 < n := by omega
      go_enter Tryz.func22, Tryz.ntmps22
      go_wp2
      go_ret
      exact ⟨rfl, rfl⟩
theorem put_nil (x n : Int) (w : World) :
    Calls Tryz.prog 22 #[.pointer none, .int .i64 x, .int .i64 n] w fun e w' => e = .returned (.int .i64 1) ∧ w' = w := by
  go_enter Tryz.func22, Tryz.ntmps22
  go_wp2
  go_ret
  exact ⟨rfl, rfl⟩

theorem shr_some (x : Int) (n : Nat) (h : (2 : Int) ^ n ≤ x) : x / 2 ^ n ≠ 0 := by
  have hp : (0 : Int) < 2 ^ n := Int.pow_pos (by decide)
  have := Int.le_ediv_of_mul_le hp (show 1 * (2 : Int) ^ n ≤ x by omega)
  omega
theorem put_range (x : Int) (n : Nat) (p : Addr) (w : World) (hn : n ≤ 56) (hx : x < 0 ∨ (2 : Int) ^ n ≤ x) :
    Calls Tryz.prog 22 #[.pointer (some p), .int .i64 x, .int .i64 n] w fun e w' => e = .returned (.int .i64 7) ∧ w' = w := by
  have HX := Lib.hid hx
  clear hx
  by_cases h0 : x < 0
  · go_enter Tryz.func22, Tryz.ntmps22
    go_wp2
    go_ret
    exact ⟨rfl, rfl⟩
  · have hz : x / 2 ^ n ≠ 0 := shr_some x n (HX.out.resolve_left h0)
    have hzb : (x / 2 ^ n != 0) = true := by rw [bne_iff_ne]; exact hz
    go_enter Tryz.func22, Tryz.ntmps22
    go_wp2
    go_ret
    exact ⟨rfl, rfl⟩

theorem bytes_nil (w : World) :
    Calls Tryz.prog 25 #[.pointer none] w fun e w' => e = .returned (.string (ofB [])) ∧ w' = w := by
  go_enter Tryz.func25, Tryz.ntmps25
  go_wp2
  go_ret
  exact ⟨rfl, rfl⟩
theorem bytes_wr (bs : List Bool) (B g : Nat) (v : Value) (w : World) (h : Wr w B g v bs) :
    Calls Tryz.prog 25 #[.pointer (some ⟨g, 0, none⟩)] w fun e w' => e = .returned (.string (ofB (pack bs))) ∧ w' = w := by
  have c0 : w.cell? ⟨g, 0, none⟩ = some v := cell_of_row _ _ _ _ _ _ h.row
  by_cases hp : (pack bs).length = 0
  · have he : pack bs = [] := List.eq_nil_of_length_eq_zero hp
    rcases h.own.2 with ⟨rfl, _⟩ | ⟨g1, cap, cur, rfl, hb, hr, hc, hm, hs, ht⟩
    · have hv := run_convert_bytes_nil (P := Tryz.prog) w 57 5 Tryz.underlying57 Tryz.underlying5 0 0 9 Tryz.underlying9
      rw [he]
      clear h
      go_enter Tryz.func25, Tryz.ntmps25
      go_wp2
      go_ret
      exact ⟨rfl, rfl⟩
    · have hv := run_conv w g1 0 cap 0 [] rfl (fun i hi => by simp at hi)
      rw [hp] at c0
      rw [he]
      clear h hb hr hc hm hs ht
      go_enter Tryz.func25, Tryz.ntmps25
      go_wp2
      go_ret
      exact ⟨rfl, rfl⟩
  · obtain ⟨g1, cap, rfl, hb, hlt, hc⟩ := own_cells h.own (by omega)
    have hv := run_conv w g1 0 cap (pack bs).length (pack bs) rfl (fun i hi => by rw [Nat.zero_add, hc i hi, Array.getElem?_toList, byteCells_get _ _ hi])
    clear h hc
    go_enter Tryz.func25, Tryz.ntmps25
    go_wp2
    go_ret
    exact ⟨rfl, rfl⟩

/-- A new Writer. -/
theorem wr_new (w : World) (B g : Nat) (hg : w.heap.size = g) (hB : g < B) : Wr (w.alloc (.cells #[.slice none 0 0, .int .i64 0] 59)) B g (.slice none 0 0) [] :=
  ⟨row_new w g hg _ _, World.ownsRow_nil _ _ _ _, hB⟩

theorem own_at {w w' : World} {B n size : Nat} {e : TypeId} {v : Value} {xs : List Value} (h : w.ownsRow B e size v n xs) (hb : ∀ k, v.ownBlock = some k → w'.heap[k]? = w.heap[k]?) : w'.ownsRow B e size v n xs := by
  refine ⟨h.1, ?_⟩
  rcases h.2 with h0 | ⟨g, cap, cur, rfl, hg, hr, h1⟩
  · exact Or.inl h0
  · exact Or.inr ⟨g, cap, cur, rfl, hg, (hb g rfl).trans hr, h1⟩
theorem own_lt {w : World} {B n size : Nat} {e : TypeId} {v : Value} {xs : List Value} (h : w.ownsRow B e size v n xs) (k : Nat) (hk : v.ownBlock = some k) : B ≤ k ∧ k < w.heap.size := h.lt k hk
theorem Wr.stays {w w' : World} {B g1 g2 : Nat} {v1 v1' v2 : Value} {bs1 bs2 : List Bool} (h : Wr w B g2 v2 bs2) (h1 : Wr w B g1 v1 bs1) (m : Moved w w' g1 v1 v1') (hne : g1 ≠ g2) (hd : ∀ k, v2.ownBlock = some k → v1.ownBlock ≠ some k) : Wr w' B g2 v2 bs2 := by
  refine ⟨?_, own_at h.own fun k hk => ?_, h.lt⟩
  · exact (m.block g2 h.row.lt (fun e => hne e.symm) (own_ne h1.own g2 h.lt)).trans h.row
  · have := own_lt h.own k hk
    have := h1.lt
    exact m.block k (by omega) (by omega) (fun e => hd k hk e.symm)
/-- Two Writers, apart. -/
structure Two (w : World) (B g1 : Nat) (v1 : Value) (bs1 : List Bool) (g2 : Nat) (v2 : Value) (bs2 : List Bool) : Prop where
  l : Wr w B g1 v1 bs1
  r : Wr w B g2 v2 bs2
  ne : g1 ≠ g2
  apart : ∀ k, v2.ownBlock = some k → v1.ownBlock ≠ some k
theorem Two.symm {w : World} {B g1 g2 : Nat} {v1 v2 : Value} {bs1 bs2 : List Bool} (h : Two w B g1 v1 bs1 g2 v2 bs2) : Two w B g2 v2 bs2 g1 v1 bs1 :=
  ⟨h.r, h.l, fun e => h.ne e.symm, fun k h1 h2 => h.apart k h2 h1⟩
theorem Two.left {w w' : World} {B g1 g2 : Nat} {v1 v1' v2 : Value} {bs1 bs1' bs2 : List Bool} (h : Two w B g1 v1 bs1 g2 v2 bs2) (h1 : Wr w' B g1 v1' bs1') (m : Moved w w' g1 v1 v1') : Two w' B g1 v1' bs1' g2 v2 bs2 := by
  refine ⟨h1, h.r.stays h.l m h.ne h.apart, h.ne, fun k hk => ?_⟩
  have h2 := own_lt h.r.own k hk
  rcases m.own with e | ⟨j, e, hj⟩
  · rw [e]; exact h.apart k hk
  · rw [e]; intro e2; injection e2 with e2; omega
theorem Two.right {w w' : World} {B g1 g2 : Nat} {v1 v2 v2' : Value} {bs1 bs2 bs2' : List Bool} (h : Two w B g1 v1 bs1 g2 v2 bs2) (h2 : Wr w' B g2 v2' bs2') (m : Moved w w' g2 v2 v2') : Two w' B g1 v1 bs1 g2 v2' bs2' :=
  (h.symm.left h2 m).symm
theorem Wr.drew {w : World} {B g : Nat} {v : Value} {bs : List Bool} (h : Wr w B g v bs) : Wr w.drew B g v bs := ⟨h.row, h.own, h.lt⟩
theorem Two.drew {w : World} {B g1 g2 : Nat} {v1 v2 : Value} {bs1 bs2 : List Bool} (h : Two w B g1 v1 bs1 g2 v2 bs2) : Two w.drew B g1 v1 bs1 g2 v2 bs2 := ⟨h.l.drew, h.r.drew, h.ne, h.apart⟩
/-- What a Writer's call does, seen from a floor beneath it. -/
theorem Wr.floor {w w' : World} {B F g : Nat} {v v' : Value} {bs : List Bool} (h : Wr w B g v bs) (m : Moved w w' g v v') (hF : F ≤ g) (hw : F ≤ w.heap.size) : Below F w w' :=
  m.below hF (fun k hk => by have := own_ge h.own k hk; have := h.lt; omega) hw
end Go.Proofs.YtalbcimnnihmnaaGreat

/- pvq's Index, plain: what is left of a list behind p numbers; numbers that a walk wraps; a box's cell. No conditions but those that each fact names. -/
namespace Go.Proofs.YtalbcimnnihmnaaGreat
open Go.RowKit
open M
theorem drop_one (l : List Int) (p : Nat) (h : p < l.length) : l.drop p = l.getD p 0 :: l.drop (p + 1) := by
  rw [List.drop_eq_getElem_cons h, List.getD_eq_getElem?_getD, List.getElem?_eq_getElem h]
  rfl
theorem pl_drop (l : List Int) (p : Nat) (h : p < l.length) : pl13 (l.drop p) = (l.getD p 0).natAbs + pl13 (l.drop (p + 1)) := by
  rw [drop_one l p h]; rfl
theorem ix_drop (l : List Int) (p : Nat) (h : p < l.length) : ix13 (l.drop p) = ah (cn13 (l.length - 1 - p)) (pl13 (l.drop p)) (rk (l.getD p 0)) + ix13 (l.drop (p + 1)) := by
  rw [pl_drop l p h, drop_one l p h]
  show ah (cn13 (l.drop (p + 1)).length) _ _ + _ = _
  rw [List.length_drop, show l.length - (p + 1) = l.length - 1 - p by omega]
theorem pl_dropped (l : List Int) (p : Nat) : pl13 (l.drop p) ≤ pl13 l := by
  have h := pl_app (l.take p) (l.drop p)
  rw [List.take_append_drop] at h
  omega
theorem ix_le (a b : Nat) (h : a ≤ b) : (a : Int) ≤ (b : Int) := Int.ofNat_le.2 h
theorem ix_big (l : List Int) (h : l.length ≤ 8) (hp : pl13 l ≤ 12) : (ix13 l : Int) ≤ 152587890625 := by
  have h1 := ix_lt l
  exact Int.le_trans (ix_le _ _ (Nat.le_of_lt h1)) (cn_big _ _ h hp)
theorem unr_eq (r : Nat) (x : Int) : unr r = x ↔ r = rk x := by
  constructor
  · intro h; rw [← h, rk_unr]
  · intro h; rw [h, unr_rk]
theorem ah_one_more (f : Nat → Nat) (k r : Nat) : (ah f k (r + 1) : Int) = (ah f k r : Int) + (f (k - sz r) : Int) := Int.natCast_add _ _
theorem box_cell13 (w : World) (v : Value) (t : TypeId) : (w.alloc (.cells #[v] t)).cell? ⟨w.heap.size, 0, none⟩ = some v :=
  (cell_of_row _ _ 0 _ _ (0, 0) (row_new w _ rfl #[v] t)).trans rfl
theorem wi_sub (a b c : Nat) (h : a = b + c) (ha : a ≤ 1000000) : IntKind.i64.wrap ((a : Int) - (b : Int)) = (c : Int) := by rw [IntKind.wrap_i64]; omega
theorem wi_eq (x y : Int) (h : x = y) (h1 : 0 ≤ y) (h2 : y ≤ 152587890625) : IntKind.i64.wrap x = y := by subst h; rw [IntKind.wrap_i64]; omega
theorem wi_add (a b c : Nat) (h : c = a + b) (ha : c ≤ 152587890625) : IntKind.i64.wrap ((a : Int) + (b : Int)) = (c : Int) := by rw [IntKind.wrap_i64]; omega
/-- What Index answers. -/
def ixI (l : List Int) : Int := if 12 < pu13 l then 0 else (ix13 l : Int)
def ixE (l : List Int) : Int := if 12 < pu13 l then 7 else 0
end Go.Proofs.YtalbcimnnihmnaaGreat

/- pvq's Index. Conditions: lists of numbers as they lie. -/
namespace Go.Proofs.YtalbcimnnihmnaaGreat
open Go.RowKit
open M
set_option maxRecDepth 100000 in
set_option maxHeartbeats 1000000 in
theorem index_any (l : List Int) (v : Value) (w : World) (hv : IntsAt w v l) (hl : l.length ≤ maxLen) :
    Calls Tryz.prog 50 #[v] w fun e w' => e = .returned (.tuple #[.int .i64 (ixI l), .int .i64 (ixE l)]) ∧ Below w.heap.size w w' := by
  have HP := pulses_any l v w hv hl
  by_cases h12 : 12 < pu13 l
  · have HI : Hid (ixI l = 0) := Lib.hid (if_pos h12)
    have HE : Hid (ixE l = 7) := Lib.hid (if_pos h12)
    generalize pu13 l = p at *
    have hpI : (12 : Int) < (p : Int) := by omega
    clear hv hl
    go_enter Tryz.func50, Tryz.ntmps50
    go_wp2_with fail
    refine HP.mono ?_
    rintro e w1 ⟨rfl, rfl⟩
    go_wp2
    go_ret2
    exact ⟨by rw [HI.out, HE.out]; rfl, Below.refl _ _⟩
  · have HI : Hid (ixI l = (ix13 l : Int)) := Lib.hid (if_neg h12)
    have HE : Hid (ixE l = 0) := Lib.hid (if_neg h12)
    have h8 : l.length ≤ 8 := by
      rcases Nat.lt_or_ge 8 l.length with h | h
      · rw [pu_long l h] at h12; omega
      · exact h
    have hpl : pu13 l = pl13 l := by
      have := pu_in l h8
      omega
    rw [hpl] at HP h12
    have hp12 : pl13 l ≤ 12 := by omega
    have HIB := Lib.hid (ix_big l h8 hp12)
    have HPD := Lib.hid (pl_drop l)
    have HXD := Lib.hid (ix_drop l)
    have HPB := Lib.hid (pl_dropped l)
    have HP0 : Hid (pl13 (l.drop 0) = pl13 l) := Lib.hid rfl
    have HX0 : Hid (ix13 (l.drop 0) = ix13 l) := Lib.hid rfl
    have HXL : Hid (ix13 (l.drop l.length) = 0) := Lib.hid (by rw [List.drop_length]; rfl)
    obtain ⟨a, cap, rfl, hcell⟩ := hv
    obtain ⟨L, hL⟩ : ∃ L, l.length = L := ⟨_, rfl⟩
    rw [hL] at hcell HXD HXL HPD HP h8 ⊢
    clear hL hl hpl
    obtain ⟨K0, hK0⟩ : ∃ K0, pl13 l = K0 := ⟨_, rfl⟩
    rw [hK0] at HP h12 hp12 HP0 HPB
    obtain ⟨X0, hX0⟩ : ∃ X0, ix13 l = X0 := ⟨_, rfl⟩
    rw [hX0] at HI HIB HX0
    clear hK0 hX0
    have hkI : ¬ (12 : Int) < (K0 : Int) := by omega
    have HCA := counts_any
    have HCP := counts_put
    have HTL := Lib.hid (tf_len 117)
    have HTC := Lib.hid fun n k h1 h2 => tf_cell 117 n k h1 h2 (by omega)
    generalize tf13 117 = T at HCA HCP HTL HTC
    go_enter Tryz.func50, Tryz.ntmps50
    go_wp2_with fail
    refine HP.mono ?_
    rintro e w1 ⟨rfl, rfl⟩
    clear HP
    go_wp2_with fail
    refine (HCA w1).mono ?_
    rintro e w2 ⟨rfl, hb2⟩
    have hz := counts_zero w2
    have hst := HCP w2
    have hsz : (iCells T).size = 117 := by rw [iCells_size, HTL.out]
    have HR : Hid (Row (w2.alloc (.cells (iCells T) 122)) w2.heap.size 122 (iCells T)) := heap_alloc_new _ _
    have HB := Lib.hid (hb2.alloc hb2.size (.cells (iCells T) 122))
    have HG := Lib.hid hb2.size
    clear hb2
    go_wp2_with fail
    clear hz hst hsz HCA HCP
    generalize w2.heap.size = g at *
    generalize w2.alloc (.cells (iCells T) 122) = w3 at *
    go_loopw [4, 6, 19] (fun kk ii pp wr => ∃ p K I : Nat, p ≤ L ∧ pp = .int .i64 p ∧ kk = .int .i64 K ∧ ii = .int .i64 I ∧ K = pl13 (l.drop p) ∧ I + ix13 (l.drop p) = X0 ∧ Row wr g 122 (iCells T) ∧ Below w1.heap.size w1 wr) (fun _ _ pp _ => L - (intOf pp).toNat)
    case atStart => exact ⟨0, K0, 0, by omega, rfl, rfl, rfl, HP0.out.symm, by rw [HX0.out]; omega, HR.out, HB.out⟩
    case round =>
      clear HR HB HP0 HX0
      obtain ⟨p, K, I, hp, rfl, rfl, rfl, hK, hI, hR, hB⟩ := hrel
      rcases Nat.lt_or_ge p L with hlt | hge
      · obtain ⟨b, off, rfl, hbs, hcs⟩ := hcell (by omega)
        have c0 := (hB.cell (p := ⟨b, off + p, none⟩) hbs).trans (hcs p hlt)
        obtain ⟨m, hm⟩ : ∃ m, m = L - 1 - p := ⟨_, rfl⟩
        have hxd := HXD.out p hlt
        have hpd := HPD.out p hlt
        have hpb := HPB.out p
        obtain ⟨x, hx⟩ : ∃ x, l.getD p 0 = x := ⟨_, rfl⟩
        obtain ⟨K2, hK2⟩ : ∃ K2, K2 = pl13 (l.drop (p + 1)) := ⟨_, rfl⟩
        obtain ⟨X2, hX2⟩ : ∃ X2, X2 = ix13 (l.drop (p + 1)) := ⟨_, rfl⟩
        rw [hx] at c0 hxd hpd
        rw [← hK2] at hpd
        rw [← hK, ← hm, ← hX2] at hxd
        rw [← hK] at hpd hpb
        rw [hxd] at hI
        have HK2 := Lib.hid hK2
        have HX2 := Lib.hid hX2
        have HPD1 := Lib.hid hpd
        have HI2 := Lib.hid hI
        have HMD := Lib.hid hm
        have HR := Lib.hid hR
        have HB := Lib.hid hB
        have HKB : Hid (K ≤ 12) := Lib.hid (by omega)
        have ew1 : (L : Int) - 1 = ((L - 1 : Nat) : Int) := by omega
        have ew2 : ((L - 1 : Nat) : Int) - (p : Int) = (m : Int) := by omega
        have hm8 : (m : Int) < 9 := by omega
        have hL8 : (L : Int) ≤ 8 := by omega
        have hpL : (p : Int) < 8 := by omega
        clear hcs hcell hx hK2 hX2 hxd hpd hpb hI hm hR hB hK
        go_wp2_with fail
        refine (ordered_any wr).mono ?_
        rintro e w4 ⟨rfl, rfl⟩
        have HC0 : (wr.alloc (.cells #[.int .i64 (unr 0)] 3)).cell? ⟨wr.heap.size, 0, none⟩ = some (.int .i64 (unr 0)) := box_cell13 _ _ _
        have HF0 : (wr.alloc (.cells #[.int .i64 (unr 0)] 3)).frozen? ⟨wr.heap.size, 0, none⟩ = false := Row.free (row_new _ _ rfl #[.int .i64 (unr 0)] 3) 0
        have hR4 : Row (wr.alloc (.cells #[.int .i64 (unr 0)] 3)) g 122 (iCells T) := Row.alloc HR.out _
        have hB4 := HB.out.alloc HB.out.size (.cells #[.int .i64 (unr 0)] 3)
        have HCG : Hid (g ≠ wr.heap.size) := Lib.hid (by have := Row.lt HR.out; omega)
        have HCB := Lib.hid HB.out.size
        have HCS := Lib.hid (show Row (wr.alloc (.cells #[.int .i64 (unr 0)] 3)) wr.heap.size 3 #[.int .i64 (unr 0)] from row_new _ _ rfl _ _)
        obtain ⟨c, hc⟩ : ∃ c, wr.heap.size = c := ⟨_, rfl⟩
        rw [hc] at HC0 HF0 HCG HCB HCS ⊢
        clear HR HB hc
        have HN0 := next_any 0 c _ (by omega) HC0 HF0
        have HR4 := Lib.hid (hR4.far (p := ⟨c, 0, none⟩) HCG.out (.int .i64 (unr (0 + 1))))
        have HB4 := Lib.hid (hB4.setCell (p := ⟨c, 0, none⟩) HCB.out (.int .i64 (unr (0 + 1))))
        have HC4 := Lib.hid (Row.set HCS.out 0 (.int .i64 (unr (0 + 1))))
        clear hR4 hB4 HC0 HF0 HCS
        generalize wr.alloc (.cells #[.int .i64 (unr 0)] 3) = w4 at *
        go_wp2_with fail
        refine HN0.mono ?_
        rintro e w5 ⟨rfl, rfl⟩
        clear HN0
        generalize w4.setCell ⟨c, 0, none⟩ (.int .i64 (unr (0 + 1))) = w5 at *
        go_wp2_with fail
        go_loopw [6, 11] (fun ii ff ws => ∃ r J : Nat, r ≤ rk x ∧ ff = .int .i64 (unr r) ∧ ii = .int .i64 J ∧ J = I + ah (cn13 m) K r ∧ Row ws c 3 #[.int .i64 (unr (r + 1))] ∧ Row ws g 122 (iCells T) ∧ Below w1.heap.size w1 ws) (fun _ ff _ => rk x - rk (intOf ff))
        case atStart => exact ⟨0, I, by omega, rfl, rfl, rfl, HC4.out, HR4.out, HB4.out⟩
        case round =>
          clear HR4 HB4 HC4
          obtain ⟨r, J, hr, rfl, rfl, hJ, hC, hR, hB⟩ := hrel
          have HRK := Lib.hid (rk_le x)
          have HR := Lib.hid hR
          have HB := Lib.hid hB
          have HC := Lib.hid hC
          have HJ := Lib.hid hJ
          clear hR hB hC hJ
          by_cases hrx : r = rk x
          · have hux : unr r = x := (unr_eq r x).2 hrx
            have HRX := Lib.hid hrx
            clear hrx
            rw [hux]
            go_wp2_with fail
            have HSZ := size_any x wr (by have := HPD1.out; have := HKB.out; omega) (by have := HPD1.out; have := HKB.out; omega)
            obtain ⟨ax, hax⟩ : ∃ ax, x.natAbs = ax := ⟨_, rfl⟩
            have HKX := HPD1.out
            rw [hax] at HSZ HKX
            refine HSZ.mono ?_
            rintro e w6 ⟨rfl, rfl⟩
            have ewk := wr_sub _ _ _ HKX (Nat.le_trans HKB.out (by decide))
            clear HSZ HKX hax
            go_wp2_with fail
            go_roundw
            case rel => exact ⟨p + 1, K2, J, hlt, by go_num, by go_num, rfl, HK2.out, by rw [← HX2.out, HJ.out, HRX.out, ← HI2.out, Nat.add_assoc], HR.out, HB.out⟩
            case measure =>
              exact ms13 L p hlt
          · have hux : ¬ unr r = x := fun h => hrx ((unr_eq r x).1 h)
            have HLT : Hid (r < rk x) := Lib.hid (by omega)
            obtain ⟨s, hs⟩ : ∃ s, sz r = s := ⟨_, rfl⟩
            have h24 : rk x ≤ 24 := by have h2 := HRK.out; have h3 := HPD1.out; have h4 := HKB.out; omega
            have hsK : s ≤ K := by
              have h1 := HLT.out
              have h2 := HRK.out
              have h3 := HPD1.out
              unfold sz at hs
              omega
            obtain ⟨z, hz⟩ : ∃ z, z = K - s := ⟨_, rfl⟩
            have hz13 : z < 13 := by have := HKB.out; omega
            have c3 := i_at HR.out (m * 13 + z) (by rw [HTL.out]; omega)
            rw [HTC.out _ _ (by omega) hz13] at c3
            have hah := ah_one_more (cn13 m) K r
            have hmo := ah_mono (cn13 m) K (r + 1) (rk x) HLT.out
            rw [hs, ← hz] at hah
            have HSZ := fun w => size_any (unr r) w (by have := unr_bd r (by omega); omega) (by have := unr_bd r (by omega); omega)
            rw [unr_sz, hs] at HSZ
            have HRd : Row wr.drew g 122 (iCells T) := HR.out
            have HBd := below_drew1 HB.out
            have HCd : Row wr.drew c 3 #[.int .i64 (unr (r + 1))] := HC.out
            have HNX := next_any (r + 1) c wr.drew (by omega) (cell_of_row _ _ 0 _ _ (0, 0) HCd) (HCd.free 0)
            obtain ⟨J2, hJ2⟩ : ∃ J2, J2 = I + ah (cn13 m) K (r + 1) := ⟨_, rfl⟩
            have hJB : (J2 : Int) ≤ 152587890625 := Int.le_trans (ix_le _ _ (by have := HI2.out; omega)) HIB.out
            have hJJ : (J : Int) + (cn13 m z : Int) = (J2 : Int) := by rw [hJ2, HJ.out, Int.natCast_add, Int.natCast_add, hah, Int.add_assoc]
            have HJ2 := Lib.hid hJ2
            have HR2 := Lib.hid (HRd.far (p := ⟨c, 0, none⟩) HCG.out (.int .i64 (unr (r + 1 + 1))))
            have HB2 := Lib.hid (HBd.setCell (p := ⟨c, 0, none⟩) HCB.out (.int .i64 (unr (r + 1 + 1))))
            have HC2 := Lib.hid (Row.set HCd 0 (.int .i64 (unr (r + 1 + 1))))
            have HMS := Lib.hid (show rk x - rk (unr (r + 1)) < rk x - rk (unr r) by rw [rk_unr, rk_unr]; have := HLT.out; omega)
            have ewz2 : IntKind.i64.wrap ((K : Int) - (s : Int)) = (z : Int) := wi_sub _ _ _ (by omega) (by have := HKB.out; omega)
            have hzI : (z : Int) < 13 := by omega
            have hJW := wi_eq _ _ hJJ (by omega) hJB
            generalize (cn13 m z : Int) = q at *
            clear hJJ hah hmo hJ2 hs hsK hz HR HB HC HRK HJ hrx h24 HRd HBd HCd
            go_wp2_with fail
            refine wp_region_still_tail 10 (by kernel_rfl) (by kernel_rfl) ?_
            simp only [List.take_succ_cons, List.take_zero, List.drop_succ_cons, List.drop_zero]
            repeat still_step
            still_call (HSZ _)
            repeat still_step
            refine wpStill_nil ?_
            change wpList _ _ _ _ _ wr.drew
            clear c3 HSZ
            generalize wr.drew = w6 at *
            go_wp2_with fail
            refine HNX.mono ?_
            rintro e w7 ⟨rfl, rfl⟩
            clear HNX
            generalize w6.setCell ⟨c, 0, none⟩ (.int .i64 (unr (r + 1 + 1))) = w7 at *
            go_wp2_with fail
            go_roundw
            case rel => exact ⟨r + 1, J2, HLT.out, rfl, by go_num, HJ2.out, HC2.out, HR2.out, HB2.out⟩
            case measure => exact HMS.out
      · obtain rfl : p = L := by omega
        have HIX : Hid (I = X0) := Lib.hid (by rw [HXL.out] at hI; omega)
        have HB := Lib.hid hB
        clear hB hR hI hK hcell
        go_wp2_with fail
        go_ret2
        exact ⟨by rw [HI.out, HE.out, HIX.out]; rfl, HB.out⟩
end Go.Proofs.YtalbcimnnihmnaaGreat

/- band's Right, for layers that call no other part of band. Conditions: eight steps. -/
namespace Go.Proofs.YtalbcimnnihmnaaGreat
open Go.RowKit
open M
/-- Whether a step may be. -/
def isq (n : Int) : Bool := decide (0 ≤ n ∧ n ≤ 15)
theorem isstep_anyR (n : Int) (w : World) : Calls Tryz.prog 65 #[.int .i64 n] w fun e w' => e = .returned (.bool (isq n)) ∧ w' = w := by
  by_cases h1 : n < 0
  · have e : isq n = false := decide_eq_false (by omega)
    have h2 : ¬ n ≥ 0 := by omega
    rw [e]
    clear e
    go_enter Tryz.func65, Tryz.ntmps65
    go_wp2
    go_ret
    exact ⟨rfl, rfl⟩
  · by_cases h2 : n ≤ 15
    · have e : isq n = true := decide_eq_true (by omega)
      have h3 : n ≥ 0 := by omega
      rw [e]
      clear e
      go_enter Tryz.func65, Tryz.ntmps65
      go_wp2
      go_ret
      exact ⟨rfl, rfl⟩
    · have e : isq n = false := decide_eq_false (by omega)
      have h3 : n ≥ 0 := by omega
      rw [e]
      clear e
      go_enter Tryz.func65, Tryz.ntmps65
      go_wp2
      go_ret
      exact ⟨rfl, rfl⟩
theorem index_sds (l : List Int) (hl : l.length = 8) (k : Nat) (hk : k < 8) (w : World) :
    (Instr.index 25 (.agg (iCells l)) (.int .i64 k)).run Tryz.prog w = .ok (.int .i64 (l.getD k 0)) w := by
  obtain ⟨i, hi, _, _, _⟩ := info_parts int_info
  have c := iCells_get l k (by omega)
  simp [Instr.index, run_underlying Tryz.underlying25, asIntOf, hk, run_sizeOf w hi, (show Tryz.prog.cellsOf 3 = 1 by kernel_rfl), c, go_sem]
set_option maxRecDepth 100000 in
set_option maxHeartbeats 1000000 in
theorem right17_any (l : List Int) (w : World) (hl : l.length = 8) :
    Calls Tryz.prog 36 #[.agg (iCells l)] w fun e w' => e = .returned (.bool (rt17 l)) ∧ Below w.heap.size w w' := by
  have HR : Hid (Row (w.alloc (.cells (iCells l) 25)) w.heap.size 25 (iCells l)) := heap_alloc_new _ _
  have HB : Hid (Below w.heap.size w (w.alloc (.cells (iCells l) 25))) := (Below.refl _ _).alloc (Nat.le_refl _) _
  have HL := Lib.hid hl
  have HSZ := Lib.hid (sds_size l hl)
  have HIS := fun n w => isstep_anyR n w
  have HNO : Hid (∀ k, k < 8 → isq (l.getD k 0) = false → rt17 l = false) := Lib.hid fun k hk h => b_no (rt_iff l) fun g => by
    have := g k hk
    rw [isq, decide_eq_false_iff_not] at h
    exact h this
  have HYES : Hid ((∀ j, j < 8 → isq (l.getD j 0) = true) → rt17 l = true) := Lib.hid fun h => (rt_iff l).2 fun j hj => of_decide_eq_true (h j hj)
  generalize rt17 l = R at *
  clear hl
  go_enter Tryz.func36, Tryz.ntmps36
  go_wp2_with (refine wpList_load_row rfl 25 (.tmp 1) rfl w.heap.size rfl 25 (iCells l) (0, 0) _ HR.out Tryz.underlying25 rfl HSZ.out ?_)
  clear HR
  generalize w.alloc (.cells (iCells l) 25) = w1 at *
  go_loop [6] (fun ii => ∃ k : Nat, k ≤ 8 ∧ ii = .int .i64 k ∧ ∀ j, j < k → isq (l.getD j 0) = true) (fun ii => 8 - (intOf ii).toNat)
  case atStart => exact ⟨0, by omega, rfl, fun j hj => by omega⟩
  case round =>
    obtain ⟨k, hk, rfl, hall⟩ := hrel
    have HA := Lib.hid hall
    clear hall
    rcases Nat.lt_or_ge k 8 with hlt | hge
    · have hix := index_sds l HL.out k hlt
      have HN := Lib.hid (HNO.out k hlt)
      have HST : Hid (isq (l.getD k 0) = true → ∀ j, j < k + 1 → isq (l.getD j 0) = true) := Lib.hid fun h j hj => by
        rcases Nat.lt_or_ge j k with hl | hg
        · exact HA.out j hl
        · obtain rfl : j = k := by omega
          exact h
      obtain ⟨x, hx⟩ : ∃ x, l.getD k 0 = x := ⟨_, rfl⟩
      rw [hx] at hix HN HST
      clear hx hk
      go_wp2_with fail
      refine (HIS x _).mono ?_
      rintro e w2 ⟨rfl, rfl⟩
      cases hb : isq x
      · go_wp2_with fail
        go_ret
        exact ⟨by rw [HN.out hb]; rfl, HB.out⟩
      · go_wp2_with fail
        go_round
        case rel => exact ⟨k + 1, hlt, by go_num, HST.out hb⟩
        case measure => simp [intOf] <;> omega
    · obtain rfl : k = 8 := by omega
      have HT := Lib.hid (HYES.out HA.out)
      clear hk hge HA
      go_wp2_with fail
      go_ret
      exact ⟨by rw [HT.out]; rfl, HB.out⟩
end Go.Proofs.YtalbcimnnihmnaaGreat
