/-
  lift's Turn: two numbers turned by any angle. Conditions: ints; numbers beyond 2^40 stay.
-/
import Derived.Test.YtpfdjddjoclldaaREe
namespace Go.Proofs.Ytpfdjddjoclldaa
open Go.RowKit
open M
namespace M
/-- A turn's first steps. -/
def ln (z s : Int) (f v : Int × Int) : Int × Int := (v.1 - z * s * prt v.2 f.1, v.2)
def rs (z s : Int) (f v : Int × Int) : Int × Int := (v.1, v.2 + z * s * prt v.1 f.2)
theorem ln_mi (f v : Int × Int) : ln 1 1 f v = (v.1 - prt v.2 f.1, v.2) ∧ ln (-1) (-1) f v = (v.1 - prt v.2 f.1, v.2) ∧ ln 1 (-1) f v = (v.1 + prt v.2 f.1, v.2) ∧ ln (-1) 1 f v = (v.1 + prt v.2 f.1, v.2) := by
  refine ⟨Prod.ext ?_ rfl, Prod.ext ?_ rfl, Prod.ext ?_ rfl, Prod.ext ?_ rfl⟩ <;> simp only [ln] <;> omega
theorem rs_mi (f v : Int × Int) : rs 1 1 f v = (v.1, v.2 + prt v.1 f.2) ∧ rs (-1) (-1) f v = (v.1, v.2 + prt v.1 f.2) ∧ rs 1 (-1) f v = (v.1, v.2 - prt v.1 f.2) ∧ rs (-1) 1 f v = (v.1, v.2 - prt v.1 f.2) := by
  refine ⟨Prod.ext rfl ?_, Prod.ext rfl ?_, Prod.ext rfl ?_, Prod.ext rfl ?_⟩ <;> simp only [rs] <;> omega
/-- Numbers no greater than B. -/
structure Bd (B : Int) (v : Int × Int) : Prop where
  a1 : -B ≤ v.1
  a2 : v.1 ≤ B
  b1 : -B ≤ v.2
  b2 : v.2 ≤ B
theorem Bd.ln {B : Int} {v f : Int × Int} {z s : Int} (h : Bd B v) (h0 : 0 ≤ B) (hf : 0 ≤ f.1 ∧ f.1 ≤ 32768) (hz : z = 1 ∨ z = -1) (hs : s = 1 ∨ s = -1) : Bd (2 * B + 1) (ln z s f v) := by
  obtain ⟨h1, h2, h3, h4⟩ := h
  have := prt_bd v.2 f.1 B h0 h3 h4 hf.1 hf.2
  constructor <;> simp only [M.ln] <;> rcases hz with rfl | rfl <;> rcases hs with rfl | rfl <;> omega
theorem Bd.rs {B : Int} {v f : Int × Int} {z s : Int} (h : Bd B v) (h0 : 0 ≤ B) (hf : 0 ≤ f.2 ∧ f.2 ≤ 32768) (hz : z = 1 ∨ z = -1) (hs : s = 1 ∨ s = -1) : Bd (2 * B + 1) (rs z s f v) := by
  obtain ⟨h1, h2, h3, h4⟩ := h
  have := prt_bd v.1 f.2 B h0 h1 h2 hf.1 hf.2
  constructor <;> simp only [M.rs] <;> rcases hz with rfl | rfl <;> rcases hs with rfl | rfl <;> omega
theorem Bd.spn {B : Int} {v : Int × Int} {z : Int} (h : Bd B v) (hz : z = 1 ∨ z = -1) (n : Nat) : Bd B (spn z v n) := by
  obtain ⟨h1, h2, h3, h4⟩ := spn_bd z v B hz ⟨h.a1, h.a2, h.b1, h.b2⟩ n
  exact ⟨h1, h2, h3, h4⟩
theorem Bd.more {B C : Int} {v : Int × Int} (h : Bd B v) (hc : B ≤ C) : Bd C v := ⟨by have := h.a1; omega, by have := h.a2; omega, by have := h.b1; omega, by have := h.b2; omega⟩
end M
/-- A turn, step by step; and its undoing. -/
def tS (k : Int) (v : Int × Int) : Nat → Int × Int
  | 0 => v
  | 1 => ln 1 (bgS k) (bgF k) v
  | 2 => rs 1 (bgS k) (bgF k) (ln 1 (bgS k) (bgF k) v)
  | 3 => ln 1 (bgS k) (bgF k) (rs 1 (bgS k) (bgF k) (ln 1 (bgS k) (bgF k) v))
  | _ => spn 1 (ln 1 (bgS k) (bgF k) (rs 1 (bgS k) (bgF k) (ln 1 (bgS k) (bgF k) v))) (bgN k)
def bS (k : Int) (v : Int × Int) : Nat → Int × Int
  | 0 => v
  | 1 => spn (-1) v (bgN k)
  | 2 => ln (-1) (bgS k) (bgF k) (spn (-1) v (bgN k))
  | 3 => rs (-1) (bgS k) (bgF k) (ln (-1) (bgS k) (bgF k) (spn (-1) v (bgN k)))
  | _ => ln (-1) (bgS k) (bgF k) (rs (-1) (bgS k) (bgF k) (ln (-1) (bgS k) (bgF k) (spn (-1) v (bgN k))))
theorem tS_lft (k : Int) (v : Int × Int) : tS k v 4 = lft v k := by
  show spn 1 (ln 1 (bgS k) (bgF k) (rs 1 (bgS k) (bgF k) (ln 1 (bgS k) (bgF k) v))) (bgN k) = lft v k
  rw [spn_one]
  unfold lft bgF bgR bgS bgN
  by_cases h : ang k % 128 ≤ 64
  · simp only [if_pos h]
    rw [(ln_mi _ v).1, (rs_mi _ _).1, (ln_mi _ _).1]
    rfl
  · simp only [if_neg h]
    rw [(ln_mi _ v).2.2.1, (rs_mi _ _).2.2.1, (ln_mi _ _).2.2.1]
    rfl
theorem bS_lfb (k : Int) (v : Int × Int) : bS k v 4 = lfb v k := by
  show ln (-1) (bgS k) (bgF k) (rs (-1) (bgS k) (bgF k) (ln (-1) (bgS k) (bgF k) (spn (-1) v (bgN k)))) = lfb v k
  have hlt := ang_lt k
  rw [spn_two _ _ (bgN_bd k)]
  unfold lfb bgF bgR bgS bgN
  by_cases h : ang k % 128 ≤ 64
  · simp only [if_pos h]
    rw [(ln_mi _ _).2.2.2, (rs_mi _ _).2.2.2, (ln_mi _ _).2.2.2]
    rfl
  · simp only [if_neg h]
    rw [(ln_mi _ _).2.1, (rs_mi _ _).2.1, (ln_mi _ _).2.1, show 4 - (ang k / 128 + 1) = 3 - ang k / 128 by omega]
    rfl
theorem tS_bd (k : Int) (v : Int × Int) (h : Bd 1099511627776 v) (j : Nat) : Bd 17592186044416 (tS k v j) := by
  obtain ⟨f1, f2, f3, f4⟩ := bgF_bd k
  have h1 := h.ln (z := 1) (by omega) ⟨f1, f2⟩ (Or.inl rfl) (bgS_or k)
  have h2 := h1.rs (z := 1) (by omega) ⟨f3, f4⟩ (Or.inl rfl) (bgS_or k)
  have h3 := h2.ln (z := 1) (by omega) ⟨f1, f2⟩ (Or.inl rfl) (bgS_or k)
  match j with
  | 0 => exact h.more (by omega)
  | 1 => exact h1.more (by omega)
  | 2 => exact h2.more (by omega)
  | 3 => exact h3.more (by omega)
  | _ + 4 => exact (h3.spn (Or.inl rfl) _).more (by omega)
theorem bS_bd (k : Int) (v : Int × Int) (h : Bd 1099511627776 v) (j : Nat) : Bd 17592186044416 (bS k v j) := by
  obtain ⟨f1, f2, f3, f4⟩ := bgF_bd k
  have h0 := h.spn (z := -1) (Or.inr rfl) (bgN k)
  have h1 := h0.ln (z := -1) (by omega) ⟨f1, f2⟩ (Or.inr rfl) (bgS_or k)
  have h2 := h1.rs (z := -1) (by omega) ⟨f3, f4⟩ (Or.inr rfl) (bgS_or k)
  have h3 := h2.ln (z := -1) (by omega) ⟨f1, f2⟩ (Or.inr rfl) (bgS_or k)
  match j with
  | 0 => exact h.more (by omega)
  | 1 => exact h0.more (by omega)
  | 2 => exact h1.more (by omega)
  | 3 => exact h2.more (by omega)
  | _ + 4 => exact h3.more (by omega)
/-- A turn, where it lies. -/
def TAt (w : World) (g : Nat) (k : Int) (v : Int × Int) : Prop := Row w g 71 (tc v.1 v.2 (bgF k).1 (bgF k).2 (bgS k) (bgN k : Nat))
theorem lean_row (k z : Int) (v : Int × Int) (g : Nat) (w : World) (h : TAt w g k v) (hz : z = 1 ∨ z = -1) (hb : Bd 17592186044416 v) :
    Calls Try.prog 52 #[.pointer (some ⟨g, 0, none⟩), .int .i64 z] w fun e w' => e = .returned (.tuple #[]) ∧ TAt w' g k (ln z (bgS k) (bgF k) v) ∧ Only g w w' := by
  obtain ⟨f1, f2, f3, f4⟩ := bgF_bd k
  refine (lean_any _ _ _ _ _ _ z g w h (bgS_or k) hz hb.a1 hb.a2 hb.b1 hb.b2 f1 f2).mono ?_
  rintro e w' ⟨rfl, rfl⟩
  exact ⟨rfl, h.set 0 (.int .i64 (v.1 - z * bgS k * prt v.2 (bgF k).1)), ((Only.refl g w).setCell 0 none _).drew⟩
theorem rise_row (k z : Int) (v : Int × Int) (g : Nat) (w : World) (h : TAt w g k v) (hz : z = 1 ∨ z = -1) (hb : Bd 17592186044416 v) :
    Calls Try.prog 53 #[.pointer (some ⟨g, 0, none⟩), .int .i64 z] w fun e w' => e = .returned (.tuple #[]) ∧ TAt w' g k (rs z (bgS k) (bgF k) v) ∧ Only g w w' := by
  obtain ⟨f1, f2, f3, f4⟩ := bgF_bd k
  refine (rise_any _ _ _ _ _ _ z g w h (bgS_or k) hz hb.b1 hb.b2 hb.a1 hb.a2 f3 f4).mono ?_
  rintro e w' ⟨rfl, rfl⟩
  exact ⟨rfl, h.set 1 (.int .i64 (v.2 + z * bgS k * prt v.1 (bgF k).2)), ((Only.refl g w).setCell 1 none _).drew⟩
theorem swing_row (k z : Int) (v : Int × Int) (g : Nat) (w : World) (h : TAt w g k v) (hz : z = 1 ∨ z = -1) (hb : Bd 17592186044416 v) :
    Calls Try.prog 54 #[.pointer (some ⟨g, 0, none⟩), .int .i64 z] w fun e w' => e = .returned (.tuple #[]) ∧ TAt w' g k (spn z v (bgN k)) ∧ Only g w w' := by
  obtain ⟨b1, b2, b3, b4⟩ := hb
  exact swing_any v.1 v.2 _ _ _ z (bgN k) g w h hz (bgN_bd k) ⟨by omega, by omega, by omega, by omega⟩
set_option maxRecDepth 100000 in
theorem turn_out (a b k : Int) (w : World) (ha1 : -9223372036854775808 ≤ a) (ha2 : a ≤ 9223372036854775807) (hb1 : -9223372036854775808 ≤ b) (hb2 : b ≤ 9223372036854775807)
    (h : ¬ (-1099511627776 ≤ a ∧ a ≤ 1099511627776) ∨ ¬ (-1099511627776 ≤ b ∧ b ≤ 1099511627776)) :
    Calls Try.prog 38 #[.int .i64 a, .int .i64 b, .int .i64 k] w fun e w' => e = .returned (.tuple #[.int .i64 a, .int .i64 b]) ∧ w = w' := by
  by_cases e1 : (-1099511627776 ≤ a ∧ a ≤ 1099511627776)
  · have e2 := h.resolve_left (fun n => n e1)
    have H1 := Lib.hid (decide_eq_true e1)
    have H2 := Lib.hid (decide_eq_false e2)
    clear h e1 e2
    go_enter Try.func38, Try.ntmps38
    go_wp2_with fail
    refine (held_any a _ ha1 ha2).mono ?_
    rintro e w' ⟨rfl, rfl⟩
    rw [H1.out]
    go_wp2_with fail
    refine (held_any b _ hb1 hb2).mono ?_
    rintro e w' ⟨rfl, rfl⟩
    rw [H2.out]
    go_wp2
    go_ret2
    exact ⟨rfl, rfl⟩
  · have H1 := Lib.hid (decide_eq_false e1)
    clear h e1
    go_enter Try.func38, Try.ntmps38
    go_wp2_with fail
    refine (held_any a _ ha1 ha2).mono ?_
    rintro e w' ⟨rfl, rfl⟩
    rw [H1.out]
    go_wp2
    go_ret2
    exact ⟨rfl, rfl⟩
set_option maxRecDepth 100000 in
theorem turn_in (v : Int × Int) (k : Int) (w : World) (hv : Bd 1099511627776 v) (hk1 : -9223372036854775808 ≤ k) (hk2 : k ≤ 9223372036854775807) :
    Calls Try.prog 38 #[.int .i64 v.1, .int .i64 v.2, .int .i64 k] w fun e w' => e = .returned (.tuple #[.int .i64 (lft v k).1, .int .i64 (lft v k).2]) ∧ Below w.heap.size w w' := by
  have HL := Lib.hid (tS_lft k v)
  have HBD := Lib.hid (tS_bd k v hv)
  have HV := Lib.hid hv
  obtain ⟨a1, a2, b1, b2⟩ := hv
  have H1 := Lib.hid (decide_eq_true (⟨a1, a2⟩ : -1099511627776 ≤ v.1 ∧ v.1 ≤ 1099511627776))
  have H2 := Lib.hid (decide_eq_true (⟨b1, b2⟩ : -1099511627776 ≤ v.2 ∧ v.2 ≤ 1099511627776))
  obtain ⟨a, ha⟩ : ∃ a, v.1 = a := ⟨_, rfl⟩
  obtain ⟨b, hb⟩ : ∃ b, v.2 = b := ⟨_, rfl⟩
  rw [ha] at H1 a1 a2 ⊢
  rw [hb] at H2 b1 b2 ⊢
  have HA := Lib.hid ha
  have HB := Lib.hid hb
  clear ha hb
  go_enter Try.func38, Try.ntmps38
  go_wp2_with fail
  refine (held_any a _ (by omega) (by omega)).mono ?_
  rintro e w' ⟨rfl, rfl⟩
  rw [H1.out]
  go_wp2_with fail
  refine (held_any b _ (by omega) (by omega)).mono ?_
  rintro e w' ⟨rfl, rfl⟩
  rw [H2.out]
  go_wp2_with fail
  refine (begin_any a b k _ hk1 hk2).mono ?_
  rintro e w1 ⟨rfl, hb1⟩
  have HB1 := Lib.hid hb1
  clear hb1 a1 a2 b1 b2 H1 H2
  obtain ⟨F, hF⟩ : ∃ F, bgF k = F := ⟨_, rfl⟩
  obtain ⟨s, hs⟩ : ∃ s, bgS k = s := ⟨_, rfl⟩
  obtain ⟨n, hn⟩ : ∃ n, bgN k = n := ⟨_, rfl⟩
  obtain ⟨p, q⟩ := F
  rw [hF, hs, hn]
  have HF := Lib.hid hF
  have HS := Lib.hid hs
  have HN := Lib.hid hn
  clear hF hs hn
  unfold tc
  go_wp2_with fail
  have HR2 : Hid (TAt (w1.alloc (.cells (tc a b p q s n) 71)) w1.heap.size k v) := by
    unfold Hid TAt
    rw [HF.out, HS.out, HN.out, HA.out, HB.out]
    exact heap_alloc_new _ _
  have HB2 : Hid (Below w.heap.size w (w1.alloc (.cells (tc a b p q s n) 71))) := HB1.out.alloc HB1.out.size _
  have hg : w.heap.size ≤ w1.heap.size := HB1.out.size
  have HG := Lib.hid hg
  clear hg HB1 HF HS HN HA HB
  change Calls _ _ _ (w1.alloc (.cells (tc a b p q s n) 71)) _
  generalize w1.heap.size = g at *
  generalize w1.alloc (.cells (tc a b p q s n) 71) = w2 at *
  refine (steps_any g _).mono ?_
  rintro e w3 ⟨rfl, hb3⟩
  have HB3 := Lib.hid (HB2.out.trans (hb3.mono HB2.out.size))
  have HR3 : Hid (TAt w3 g k v) := Row.box HR2.out hb3
  clear hb3 HR2 HB2
  go_wp2
  go_loopw [26] (fun i wr => ∃ j : Nat, j ≤ 4 ∧ i = .int .i64 j ∧ TAt wr g k (tS k v j) ∧ Below w.heap.size w wr) (fun i _ => 4 - (intOf i).toNat)
  case atStart => exact ⟨0, by omega, rfl, HR3.out, HB3.out⟩
  case round =>
    clear HR3 HB3
    obtain ⟨j, hj, rfl, h1, h2⟩ := hrel
    have HR := Lib.hid h1
    have HBW := Lib.hid h2
    clear h1 h2
    have hjj : j = 0 ∨ j = 1 ∨ j = 2 ∨ j = 3 ∨ j = 4 := by omega
    clear hj
    rcases hjj with rfl | rfl | rfl | rfl | rfl
    · have hx := index_0 g wr
      go_wp2_with fail
      clear hx
      refine (lean_row k 1 _ g _ HR.out (Or.inl rfl) (HBD.out 0)).mono ?_
      rintro e w4 ⟨rfl, ht, ho⟩
      have HR4 := Lib.hid ht
      have HB4 := Lib.hid (HBW.out.trans (ho.below HG.out))
      clear ht ho HR HBW
      go_wp2
      go_roundw
      case rel => exact ⟨1, by omega, rfl, HR4.out, HB4.out⟩
      case measure => simp [intOf]
    · have hx := index_1 g wr
      go_wp2_with fail
      clear hx
      refine (rise_row k 1 _ g _ HR.out (Or.inl rfl) (HBD.out 1)).mono ?_
      rintro e w4 ⟨rfl, ht, ho⟩
      have HR4 := Lib.hid ht
      have HB4 := Lib.hid (HBW.out.trans (ho.below HG.out))
      clear ht ho HR HBW
      go_wp2
      go_roundw
      case rel => exact ⟨2, by omega, rfl, HR4.out, HB4.out⟩
      case measure => simp [intOf]
    · have hx := index_2 g wr
      go_wp2_with fail
      clear hx
      refine (lean_row k 1 _ g _ HR.out (Or.inl rfl) (HBD.out 2)).mono ?_
      rintro e w4 ⟨rfl, ht, ho⟩
      have HR4 := Lib.hid ht
      have HB4 := Lib.hid (HBW.out.trans (ho.below HG.out))
      clear ht ho HR HBW
      go_wp2
      go_roundw
      case rel => exact ⟨3, by omega, rfl, HR4.out, HB4.out⟩
      case measure => simp [intOf]
    · have hx := index_3 g wr
      go_wp2_with fail
      clear hx
      refine (swing_row k 1 _ g _ HR.out (Or.inl rfl) (HBD.out 3)).mono ?_
      rintro e w4 ⟨rfl, ht, ho⟩
      have HR4 := Lib.hid ht
      have HB4 := Lib.hid (HBW.out.trans (ho.below HG.out))
      clear ht ho HR HBW
      go_wp2
      go_roundw
      case rel => exact ⟨4, by omega, rfl, HR4.out, HB4.out⟩
      case measure => simp [intOf]
    · have h4 := HR.out
      rw [HL.out] at h4
      obtain ⟨P, hP⟩ : ∃ P, lft v k = P := ⟨_, rfl⟩
      rw [hP] at h4
      have HP := Lib.hid hP
      obtain ⟨x, y⟩ := P
      obtain ⟨c0, c1, c2, c3, c4, c5⟩ := tc_cell h4
      clear c2 c3 c4 c5 h4 hP HL HBD HV HR
      go_wp2
      go_quiet (fail)
      have HBD := Lib.hid (Below.drewN HBW.out nq)
      clear HBW c0 c1
      generalize wr.drewN nq = wd at *
      go_wp2
      go_ret2
      exact ⟨by rw [HP.out]; rfl, HBD.out⟩
end Go.Proofs.Ytpfdjddjoclldaa
