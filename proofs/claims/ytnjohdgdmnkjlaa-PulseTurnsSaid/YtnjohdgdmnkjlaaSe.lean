/-
  pulse's take and queued. Conditions: gains up to 32768, coefficients up to 2^20.
-/
import Derived.Test.YtnjohdgdmnkjlaaSd
import Derived.Test.YtnjohdgdmnkjlaaTsa
namespace Go.Proofs.Ytnjohdgdmnkjlaa
open Go.RowKit
open M
/-- A coefficient's value. -/
def cA (G : Int) (p : Nat × Int) : Value := .agg #[.int .i64 (p.1 : Int), .int .i64 G, .int .i64 p.2]
theorem QS.setFar {w0 w : World} {F : Nat → Prop} {B h g : Nat} {G : Int} {l : List (Nat × Int)} (H : QS w0 F B h g G l w) {p : Addr} (h1 : p.block ≠ g) (h2 : p.block ≠ h) (h3 : ¬ F p.block) (u : Value) : QS w0 F B h g G l (w.setCell p u) := by
  obtain ⟨cap, hr, ho⟩ := H.v
  have hs : (w.setCell p u).heap.size = w.heap.size := by simp [World.setCell]
  exact ⟨⟨cap, hr.far (fun e => h2 e.symm) u, own_far_set ho (by simp [Value.ownBlock]; exact fun e => h1 e.symm) u⟩, H.hb, H.fg, H.fh, fun k hk => by rw [hs]; exact H.fl k hk, H.be.set h3 u, H.bd, H.ln⟩
theorem QS.framed {w0 w1 w : World} {F K : Nat → Prop} {B h g : Nat} {G : Int} {l : List (Nat × Int)} (H : QS w1 K B h g G l w) (hk : ∀ k, F k → K k) (hb : KF F w0 w) : QS w0 F B h g G l w :=
  ⟨H.v, H.hb, fun e => H.fg (hk _ e), fun e => H.fh (hk _ e), fun k e => H.fl k (hk k e), hb, H.bd, H.ln⟩
theorem KF.trans {F K : Nat → Prop} {w0 w1 w : World} (h : KF F w0 w1) (hk : ∀ k, F k → K k) (h2 : KF K w1 w) : KF F w0 w :=
  ⟨h2.os.trans h.os, h2.tape.trans h.tape, h2.output.trans h.output, Nat.le_trans h.size h2.size, fun k e => (h2.block k (hk k e)).trans (h.block k e)⟩
/-- .. over one block more that stays. -/
theorem QS.guard {w0 w : World} {F : Nat → Prop} {B h g : Nat} {G : Int} {l : List (Nat × Int)} (H : QS w0 F B h g G l w) (o : Obj) : QS (w.alloc o) (fun k => F k ∨ k = w.heap.size) B h g G l (w.alloc o) := by
  have h1 := H.below ((Below.refl _ _).alloc (Nat.le_refl _) o)
  obtain ⟨_, _, hgl, hhl⟩ := H.far
  refine ⟨h1.v, H.hb, fun e => ?_, fun e => ?_, fun k hk => ?_, KF.refl _ _, H.bd, H.ln⟩
  · rcases e with e | e
    · exact H.fg e
    · omega
  · rcases e with e | e
    · exact H.fh e
    · omega
  · have hs : (w.alloc o).heap.size = w.heap.size + 1 := by simp
    rw [hs]
    rcases hk with e | e
    · have := H.fl k e; omega
    · omega
/-- What take answers, and leaves. -/
def TkP (w0 : World) (F : Nat → Prop) (B h g : Nat) (G : Int) (d : Nat × Int) (L : List (Nat × Int)) (n : Nat) (e : Ending) (w' : World) : Prop :=
  ∃ R, e = .returned (cA G (L.getD 0 d)) ∧ QS w0 F B h g G R w' ∧ R.length = n ∧ Hp (lt14 G) d R R.length 0 ∧ L.Perm (L.getD 0 d :: R)
theorem coef_zero (w : World) : (zeroValue 49).run Try.prog w = .ok (.agg #[.int .i64 0, .int .i64 0, .int .i64 0]) w := by
  obtain ⟨i, h1, h2, _, _⟩ := coef_parts
  simp [zeroValue, typeInfo, h1, h2]
set_option maxRecDepth 100000 in
set_option maxHeartbeats 1000000 in
theorem take_any {w0 : World} {F : Nat → Prop} {B h g : Nat} {G : Int} (d : Nat × Int) (L : List (Nat × Int)) (n : Nat) (w : World) (H : QS w0 F B h g G L w) (h0 : 0 ≤ G) (h1 : G ≤ 32768) (hl : L.length = n + 1) (hp : Hp (lt14 G) d L L.length 0) :
    Calls Try.prog 21 #[.pointer (some ⟨h, 0, none⟩)] w fun e w' => TkP w0 F B h g G d L n e w' := by
  have HH := Lib.hid H
  have HHM := Lib.hid fun o : Obj => (QS.hm (w0 := w.alloc o) (F := fun k => F k ∨ k = w.heap.size) (B := B) (h := h) (g := g) d h0 h1)
  have HFF := Lib.hid (heap_pop (lt14 G) (lt14_ls G) d L n hl hp)
  have HLN := H.ln
  have HP := Lib.hid fun o : Obj => pop_any (lt14 G) d 45 (.pointer (some ⟨h, 0, none⟩)) _ _ _ 53 (fun p => .iface 49 (cA G p)) _ (HHM.out o) (fun args w => by kernel_rfl)
    (fun l w hs hl0 => ⟨_, meth_ptr m_pop Try.underlying45 w ⟨h, 0, none⟩ _, qpop_any d l w hs hl0⟩) L (w.alloc o) (H.guard o) (by omega) (by omega)
  obtain ⟨hne, hBg, hgl, hhl⟩ := H.far
  have HNE := Lib.hid (show w.heap.size ≠ g ∧ w.heap.size ≠ h by omega)
  have HRT : Hid (Row (w.alloc (.cells #[.int .i64 0, .int .i64 0, .int .i64 0] 49)) w.heap.size 49 #[.int .i64 0, .int .i64 0, .int .i64 0]) := Lib.hid (heap_alloc_new _ _)
  have hz := coef_zero
  have HL := Lib.hid (show L.length - 1 = n by omega)
  have hta := as_coef
  obtain ⟨⟨a, u⟩, hpa⟩ : ∃ p, L.getD 0 d = p := ⟨_, rfl⟩
  have HPA := Lib.hid hpa
  clear H h0 h1 hl hp hne hBg hgl hhl HLN hpa
  go_enter Try.func21, Try.ntmps21
  go_wp2_with fail
  refine (HP.out _).mono ?_
  rintro e w1 ⟨rfl, hst⟩
  rw [HL.out] at hst ⊢
  rw [HFF.out.1, HPA.out]
  have HST := Lib.hid hst
  have hrt := (hst.be.block w.heap.size (Or.inr rfl)).trans HRT.out
  have c0 := cell_of_row _ _ 0 _ _ _ hrt
  have c1 := cell_of_row _ _ 1 _ _ _ hrt
  have c2 := cell_of_row _ _ 2 _ _ _ hrt
  have f0 := frozen_of_row _ _ 0 _ _ hrt
  have f1 := frozen_of_row _ _ 1 _ _ hrt
  have f2 := frozen_of_row _ _ 2 _ _ hrt
  have HR1 : Hid (Row w1 w.heap.size 49 #[.int .i64 0, .int .i64 0, .int .i64 0]) := Lib.hid hrt
  clear hst hrt HP
  unfold cA
  go_wp2_with fail
  refine bodyPost_ret (v := cA G (a, u)) (results_cell_row Try.results21 _ _ w.heap.size 49 #[.int .i64 (a : Int), .int .i64 G, .int .i64 u] (0, 0) _ rfl (((HR1.out.set 0 _).set 1 _).set 2 _) Try.underlying49 rfl (by kernel_rfl)) rfl ?_
  have hk : KF F w0 w1 := (HH.out.be.more HH.out.fl ((Below.refl _ _).alloc (Nat.le_refl _) _)).trans (fun k e => Or.inl e) HST.out.be
  have hq := HST.out.framed (F := F) (fun k e => Or.inl e) hk
  have hf : ¬ F w.heap.size := fun e => by have := HH.out.fl _ e; omega
  have h6 := ((hq.setFar (p := ⟨w.heap.size, 0, none⟩) HNE.out.1 HNE.out.2 hf (.int .i64 (a : Int))).setFar (p := ⟨w.heap.size, 1, none⟩) HNE.out.1 HNE.out.2 hf (.int .i64 G)).setFar (p := ⟨w.heap.size, 2, none⟩) HNE.out.1 HNE.out.2 hf (.int .i64 u)
  exact ⟨_, by rw [HPA.out], h6, HFF.out.2.1, HFF.out.2.2.1, HFF.out.2.2.2⟩
/-- What Push leaves. -/
def PsP (w0 : World) (B h : Nat) (G : Int) (d : Nat × Int) (L : List (Nat × Int)) (x : Nat × Int) (e : Ending) (w' : World) : Prop :=
  ∃ R g, e = .returned (.tuple #[]) ∧ QS w0 (· < B) B h g G R w' ∧ Hp (lt14 G) d R R.length 0 ∧ R.Perm (L ++ [x])
theorem hpush_any {w0 : World} {B h g : Nat} {G : Int} (d : Nat × Int) (L : List (Nat × Int)) (x : Nat × Int) (w : World) (H : QS w0 (· < B) B h g G L w) (h0 : 0 ≤ G) (h1 : G ≤ 32768) (hl : L.length < 1000) (hx : -4194304 ≤ x.2 ∧ x.2 ≤ 4194304) (hp : Hp (lt14 G) d L L.length 0) :
    Calls Try.prog 23 #[.iface 45 (.pointer (some ⟨h, 0, none⟩)), .iface 49 (cA G x)] w fun e w' => PsP w0 B h G d L x e w' := by
  obtain ⟨h2, h3⟩ := heap_push (lt14 G) (lt14_ls G) d L x hp
  refine (push_any (lt14 G) d 45 (.pointer (some ⟨h, 0, none⟩)) (.iface 49 (cA G x)) _ _ _ 54 _ (HM.some (fun g => QS.hm (w0 := w0) (F := (· < B)) (B := B) (h := h) (g := g) d h0 h1) g) (fun args w => by kernel_rfl) L x w
    ⟨_, meth_ptr m_push Try.underlying45 w ⟨h, 0, none⟩ _, qpush_any x.1 x.2 L w H hx hl⟩ (by omega)).mono ?_
  rintro e w' ⟨he, g', hs⟩
  exact ⟨_, g', he, hs, h2, h3⟩
/-- What queued answers. -/
def QdP (w : World) (G : Int) (d : Nat × Int) (u : Nat → Int) (e : Ending) (w' : World) : Prop :=
  ∃ h g L, e = .returned (.pointer (some ⟨h, 0, none⟩)) ∧ QS w (· < w.heap.size) w.heap.size h g G L w' ∧ Hp (lt14 G) d L L.length 0 ∧ L.Perm (r4 u)
set_option maxRecDepth 100000 in
set_option maxHeartbeats 1000000 in
theorem queued_any {G : Int} (d : Nat × Int) (c : List Int) (w : World) (hc : c.length = 4) (h0 : 0 ≤ G) (h1 : G ≤ 32768) (hx : ∀ j, j < 4 → -1048576 ≤ c.getD j 0 ∧ c.getD j 0 ≤ 1048576) :
    Calls Try.prog 19 #[.agg (iCells c), .int .i64 G] w fun e w' => QdP w G d (fun i => ab (c.getD i 0)) e w' := by
  have HIX := Lib.hid (index_four c hc)
  have HSC := Lib.hid (four_size c hc)
  have HX := Lib.hid hx
  have HG := Lib.hid (show 0 ≤ G ∧ G ≤ 32768 from ⟨h0, h1⟩)
  clear hx hc h0 h1
  go_enter Try.func19, Try.ntmps19
  go_wp2_with (refine wpList_load_row rfl 22 (.tmp 2) rfl w.heap.size rfl 22 (iCells c) (0, 0) _ ((Row.alloc (Row.alloc (heap_alloc_new _ _) _) _)) Try.underlying22 rfl HSC.out ?_)
  have hq : QS w (· < w.heap.size) w.heap.size (w.heap.size + 1 + 1) (w.heap.size + 1) G [] (((w.alloc (.cells (iCells c) 22)).alloc (.cells #[] 49)).alloc (.cells #[.slice (some ⟨w.heap.size + 1, 0, none⟩) 0 0] 61)) := by
    have hs1 : (w.alloc (.cells (iCells c) 22)).heap.size = w.heap.size + 1 := by simp
    have ho := (World.ownsRow_made (e := 49) (size := 3) (base := w.heap.size) (w.alloc (.cells (iCells c) 22)) #[] 0 (by omega) (by unfold maxLen; omega) rfl).alloc (.cells #[.slice (some ⟨w.heap.size + 1, 0, none⟩) 0 0] 61)
    rw [hs1] at ho
    refine ⟨⟨0, row_new _ _ (by simp) _ _, ho⟩, by omega, by omega, by omega, fun k hk => ?_, KF.of ((((Below.refl _ _).alloc (Nat.le_refl _) _).alloc (by simp) _).alloc (by simp; omega) _), fun p hp => by simp at hp, by simp⟩
    simp; omega
  have HQ := Lib.hid hq
  clear hq
  generalize ((w.alloc (.cells (iCells c) 22)).alloc (.cells #[] 49)).alloc (.cells #[.slice (some ⟨w.heap.size + 1, 0, none⟩) 0 0] 61) = w3 at *
  obtain ⟨h, hh⟩ : ∃ h, w.heap.size + 1 + 1 = h := ⟨_, rfl⟩
  rw [hh] at HQ ⊢
  clear hh
  go_loopw [11] (fun ii wr => ∃ (k g : Nat) (L : List (Nat × Int)), k ≤ 4 ∧ ii = .int .i64 k ∧ QS w (· < w.heap.size) w.heap.size h g G L wr ∧ Hp (lt14 G) d L L.length 0 ∧ L.Perm ((r4 fun i => ab (c.getD i 0)).take k)) (fun ii _ => 4 - (intOf ii).toNat)
  case atStart => exact ⟨0, _, [], by omega, rfl, HQ.out, heap_none _ _, List.Perm.refl _⟩
  case round =>
    clear HQ
    obtain ⟨k, g, L, hk, rfl, hq, hp, hpm⟩ := hrel
    rcases Nat.lt_or_ge k 4 with hlt | hge
    · have hll : L.length = k := by rw [hpm.length_eq, List.length_take]; show min k 4 = k; omega
      have hx := HX.out k hlt
      have hix := HIX.out k hlt
      obtain ⟨x, hxx⟩ : ∃ x, c.getD k 0 = x := ⟨_, rfl⟩
      rw [hxx] at hx hix
      have hb : 0 ≤ ab x ∧ ab x ≤ 1048576 := by unfold ab; omega
      have SZ := fun w => psize_any x w (by omega) (by omega)
      have HPU := Lib.hid (hpush_any d L (k, ab x) wr hq HG.out.1 HG.out.2 (by omega) (by simp only; omega) hp)
      have HTK : Hid ((r4 fun i => ab (c.getD i 0)).take (k + 1) = (r4 fun i => ab (c.getD i 0)).take k ++ [(k, ab x)]) := Lib.hid (by
        rw [← hxx]
        have h : k = 0 ∨ k = 1 ∨ k = 2 ∨ k = 3 := by omega
        rcases h with rfl | rfl | rfl | rfl <;> rfl)
      obtain ⟨y, hy⟩ : ∃ y, ab x = y := ⟨_, rfl⟩
      rw [hy] at HPU HTK
      simp only [hy] at SZ
      unfold cA at HPU
      simp only at HPU
      have HK := Lib.hid hlt
      have HPM := Lib.hid hpm
      have hkI : (k : Int) < 4 := by omega
      clear hk hq hp hpm hll hx hxx hb hy hlt
      go_wp2_with fail
      refine (SZ _).mono ?_
      rintro e w2 ⟨rfl, rfl⟩
      clear SZ
      go_wp2_with fail
      refine HPU.out.mono ?_
      rintro e w4 ⟨R, g', rfl, hs, hp, hpm⟩
      have HS := Lib.hid hs
      have HP := Lib.hid hp
      have HPR := Lib.hid hpm
      clear hs hp hpm HPU
      go_wp2_with fail
      go_roundw
      case rel => exact ⟨k + 1, g', R, HK.out, by go_num, HS.out, HP.out, by rw [HTK.out]; exact HPR.out.trans (HPM.out.append_right _)⟩
      case measure =>
        have := HK.out
        simp [intOf] <;> omega
    · obtain rfl : k = 4 := by omega
      have HS := Lib.hid hq
      have HP := Lib.hid hp
      have HPM := Lib.hid hpm
      clear hk hge hq hp hpm
      go_wp2_with fail
      go_ret
      exact ⟨h, g, L, rfl, HS.out, HP.out, HPM.out⟩
end Go.Proofs.Ytnjohdgdmnkjlaa
