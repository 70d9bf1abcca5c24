/-
  give's take, heap.Push over its queue, and queued. Conditions: steps and pulses up to 1000000, up to 1000 bands.
-/
import Derived.Test.YtkjbobgmnpifoaaQG1
import Derived.Test.YtkjbobgmnpifoaaQBnr
namespace Go.Proofs.Ytkjbobgmnpifoaa
open Go.RowKit
open M
/-- A cell of a block that stays, and is another one's. -/
theorem QS.setKept {w0 w : World} {F : Nat → Prop} {B h : Nat} {l : List (Nat × Int × Nat)} (H : QS w0 F B h l w) {p : Addr} (h1 : F p.block) (u : Value) : QS (w.setCell p u) F B h l (w.setCell p u) := by
  obtain ⟨v, hr, ho, hf⟩ := H.v
  have hs : (w.setCell p u).heap.size = w.heap.size := by simp [World.setCell]
  exact ⟨⟨v, hr.far (fun e => H.fh (by rw [e]; exact h1)) u, own_far_set ho (fun e => hf _ e h1) u, hf⟩, H.hb, H.fh, fun k hk => by rw [hs]; exact H.fl k hk, KF.refl _ _, H.bd, H.ln⟩
theorem QS.again {w0 w : World} {F : Nat → Prop} {B h : Nat} {l : List (Nat × Int × Nat)} (H : QS w0 F B h l w) : QS w F B h l w :=
  ⟨H.v, H.hb, H.fh, H.fl, KF.refl _ _, H.bd, H.ln⟩
theorem QS.drewn {w0 w : World} {F : Nat → Prop} {B h : Nat} {l : List (Nat × Int × Nat)} (H : QS w0 F B h l w) : QS w.drew F B h l w.drew :=
  ⟨H.v, H.hb, H.fh, H.fl, KF.refl _ _, H.bd, H.ln⟩
theorem QS.framed {w0 w1 w : World} {F K : Nat → Prop} {B h : Nat} {l : List (Nat × Int × Nat)} (H : QS w1 K B h l w) (hk : ∀ k, F k → K k) (hb : KF F w0 w) : QS w0 F B h l w := by
  obtain ⟨v, hr, ho, hf⟩ := H.v
  exact ⟨⟨v, hr, ho, fun g hg e => hf g hg (hk _ e)⟩, H.hb, fun e => H.fh (hk _ e), fun k e => H.fl k (hk k e), hb, H.bd, H.ln⟩
/-- .. over one block more that stays. -/
theorem QS.guard {w0 w : World} {F : Nat → Prop} {B h : Nat} {l : List (Nat × Int × Nat)} (H : QS w0 F B h l w) (o : Obj) : QS (w.alloc o) (fun k => F k ∨ k = w.heap.size) B h l (w.alloc o) := by
  have h1 := H.below ((Below.refl _ _).alloc (Nat.le_refl _) o)
  obtain ⟨v, hr, ho, hf⟩ := H.v
  have hhl := hr.lt
  refine ⟨⟨v, hr.alloc o, ho.alloc o, fun g hg e => ?_⟩, H.hb, fun e => ?_, fun k hk => ?_, KF.refl _ _, H.bd, H.ln⟩
  · have := ho.lt g hg
    rcases e with e | e
    · exact hf g hg e
    · omega
  · rcases e with e | e
    · exact H.fh e
    · omega
  · have hs : (w.alloc o).heap.size = w.heap.size + 1 := by simp
    rw [hs]
    rcases hk with e | e
    · have := H.fl k e; omega
    · omega
/-- What take answers, and leaves. -/
def TkP (w0 : World) (F : Nat → Prop) (B h : Nat) (d : Nat × Int × Nat) (L : List (Nat × Int × Nat)) (n : Nat) (e : Ending) (w' : World) : Prop :=
  ∃ R, e = .returned (tA (L.getD 0 d)) ∧ QS w0 F B h R w' ∧ R.length = n ∧ Hp lt18 d R R.length 0 ∧ L.Perm (L.getD 0 d :: R)
theorem taker_zero (w : World) : (zeroValue 45).run Try.prog w = .ok (.agg #[.int .i64 0, .int .i64 0, .int .i64 0]) w := by
  obtain ⟨i, h1, h2, _, _⟩ := take_parts
  simp [zeroValue, typeInfo, h1, h2]
set_option maxRecDepth 100000 in
set_option maxHeartbeats 1000000 in
theorem ttake_any {w0 : World} {F : Nat → Prop} {B h : Nat} (d : Nat × Int × Nat) (L : List (Nat × Int × Nat)) (n : Nat) (w : World) (H : QS w0 F B h L w) (hl : L.length = n + 1) (hp : Hp lt18 d L L.length 0) :
    Calls Try.prog 20 #[.pointer (some ⟨h, 0, none⟩)] w fun e w' => TkP w0 F B h d L n e w' := by
  have HH := Lib.hid H
  have HHM := Lib.hid fun o : Obj => (QS.hm (w0 := w.alloc o) (F := fun k => F k ∨ k = w.heap.size) (B := B) (h := h) d)
  have HFF := Lib.hid (heap_pop lt18 lt18_ls d L n hl hp)
  have HLN := H.ln
  have HP := Lib.hid fun o : Obj => pop_any lt18 d 41 (.pointer (some ⟨h, 0, none⟩)) _ _ _ 53 (fun p => .iface 45 (tA p)) _ (HHM.out o) (fun args w => by kernel_rfl)
    (fun l w hs hl0 => ⟨_, meth_ptr18 n_pop Try.underlying41 w ⟨h, 0, none⟩ _, tpop_any d l w hs hl0⟩) L (w.alloc o) (H.guard o) (by omega) (by omega)
  have HNE := Lib.hid (show w.heap.size ≠ h by have := H.lt; omega)
  have HRT : Hid (Row (w.alloc (.cells #[.int .i64 0, .int .i64 0, .int .i64 0] 45)) w.heap.size 45 #[.int .i64 0, .int .i64 0, .int .i64 0]) := Lib.hid (heap_alloc_new _ _)
  have hz := taker_zero
  have HL := Lib.hid (show L.length - 1 = n by omega)
  have hta := as_taker
  obtain ⟨⟨a, s, k⟩, hpa⟩ : ∃ p, L.getD 0 d = p := ⟨_, rfl⟩
  have HPA := Lib.hid hpa
  clear H hl hp hpa HLN HHM
  go_enter Try.func20, Try.ntmps20
  go_wp2_with fail
  refine (HP.out _).mono ?_
  rintro e w1 ⟨rfl, hst⟩
  rw [HL.out] at hst ⊢
  rw [HFF.out.1, HPA.out]
  have HST := Lib.hid hst
  have hrt := (hst.be.block w.heap.size (Or.inr rfl)).trans HRT.out
  have c0 := cell_of_row _ _ 0 _ _ _ hrt
  have c1 := cell_of_row _ _ 1 _ _ _ hrt
  have c2 := cell_of_row _ _ 2 _ _ _ hrt
  have f0 := frozen_of_row _ _ 0 _ _ hrt
  have f1 := frozen_of_row _ _ 1 _ _ hrt
  have f2 := frozen_of_row _ _ 2 _ _ hrt
  have HR1 : Hid (Row w1 w.heap.size 45 #[.int .i64 0, .int .i64 0, .int .i64 0]) := Lib.hid hrt
  clear hst hrt HP
  unfold tA
  go_wp2_with fail
  refine bodyPost_ret (v := tA (a, s, k)) (results_cell_row Try.results20 _ _ w.heap.size 45 #[.int .i64 (a : Int), .int .i64 s, .int .i64 (k : Int)] (0, 0) _ rfl (((HR1.out.set 0 _).set 1 _).set 2 _) Try.underlying45 rfl (by kernel_rfl)) rfl ?_
  have hk : KF F w0 w1 := (HH.out.be.more HH.out.fl ((Below.refl _ _).alloc (Nat.le_refl _) _)).trans (fun k e => Or.inl e) HST.out.be
  have hf : ¬ F w.heap.size := fun e => by have := HH.out.fl _ e; omega
  have h6 := ((HST.out.setKept (p := ⟨w.heap.size, 0, none⟩) (Or.inr rfl) (.int .i64 (a : Int))).setKept (p := ⟨w.heap.size, 1, none⟩) (Or.inr rfl) (.int .i64 s)).setKept (p := ⟨w.heap.size, 2, none⟩) (Or.inr rfl) (.int .i64 (k : Int))
  have hk3 := ((hk.set (p := ⟨w.heap.size, 0, none⟩) hf (.int .i64 (a : Int))).set (p := ⟨w.heap.size, 1, none⟩) hf (.int .i64 s)).set (p := ⟨w.heap.size, 2, none⟩) hf (.int .i64 (k : Int))
  exact ⟨_, by rw [HPA.out], h6.framed (F := F) (fun k e => Or.inl e) hk3, HFF.out.2.1, HFF.out.2.2.1, HFF.out.2.2.2⟩
/-- What Push leaves. -/
def PsP (w0 : World) (F : Nat → Prop) (B h : Nat) (d : Nat × Int × Nat) (L : List (Nat × Int × Nat)) (x : Nat × Int × Nat) (e : Ending) (w' : World) : Prop :=
  ∃ R, e = .returned (.tuple #[]) ∧ QS w0 F B h R w' ∧ Hp lt18 d R R.length 0 ∧ R.Perm (L ++ [x])
theorem thpush_any {w0 : World} {F : Nat → Prop} {B h : Nat} (d : Nat × Int × Nat) (L : List (Nat × Int × Nat)) (x : Nat × Int × Nat) (w : World) (H : QS w0 F B h L w) (hl : L.length < 1000) (hx : hd18 x) (hp : Hp lt18 d L L.length 0) :
    Calls Try.prog 22 #[.iface 41 (.pointer (some ⟨h, 0, none⟩)), .iface 45 (tA x)] w fun e w' => PsP w0 F B h d L x e w' := by
  obtain ⟨h2, h3⟩ := heap_push lt18 lt18_ls d L x hp
  refine (push_any lt18 d 41 (.pointer (some ⟨h, 0, none⟩)) (.iface 45 (tA x)) _ _ _ 54 _ (QS.hm (w0 := w0) (F := F) (B := B) (h := h) d) (fun args w => by kernel_rfl) L x w
    ⟨_, meth_ptr18 n_push Try.underlying41 w ⟨h, 0, none⟩ _, tpush_any x L w H hx hl⟩ (by omega)).mono ?_
  rintro e w' ⟨he, hs⟩
  exact ⟨_, he, hs, h2, h3⟩
/-- What queued answers. -/
def QdP (w : World) (d : Nat × Int × Nat) (s : Nat → Int) (e : Ending) (w' : World) : Prop :=
  ∃ h L, e = .returned (.pointer (some ⟨h, 0, none⟩)) ∧ QS w (· < w.heap.size) w.heap.size h L w' ∧ Hp lt18 d L L.length 0 ∧ L.Perm (q18 s)
set_option maxRecDepth 100000 in
set_option maxHeartbeats 1000000 in
theorem tqueued_any (d : Nat × Int × Nat) (c : List Int) (w : World) (hc : c.length = 8) (hx : ∀ j, j < 8 → 0 ≤ c.getD j 0 ∧ c.getD j 0 ≤ 15) :
    Calls Try.prog 18 #[.agg (iCells c)] w fun e w' => QdP w d (fun i => c.getD i 0) e w' := by
  have HIX := Lib.hid (index_sds c hc)
  have HSC := Lib.hid (sds_size c hc)
  have HX := Lib.hid hx
  clear hx hc
  go_enter Try.func18, Try.ntmps18
  go_wp2_with (refine wpList_load_row rfl 36 (.tmp 1) rfl w.heap.size rfl 36 (iCells c) (0, 0) _ ((Row.alloc (heap_alloc_new _ _) _)) Try.underlying36 rfl HSC.out ?_)
  have hq : QS w (· < w.heap.size) w.heap.size (w.heap.size + 1) [] ((w.alloc (.cells (iCells c) 36)).alloc (.cells (hV (.slice none 0 0)) 57)) := by
    refine ⟨⟨.slice none 0 0, row_new _ _ (by simp) _ _, ⟨rfl, Or.inl ⟨rfl, rfl⟩⟩, fun g hg => by simp [Value.ownBlock] at hg⟩, by omega, by omega, fun k hk => ?_, KF.of (((Below.refl _ _).alloc (Nat.le_refl _) _).alloc (by simp) _), fun p hp => by simp at hp, by simp⟩
    simp; omega
  have HQ := Lib.hid hq
  clear hq
  unfold hV at HQ
  generalize (w.alloc (.cells (iCells c) 36)).alloc (.cells #[.slice none 0 0, .func (.func 27) #[] #[]] 57) = w3 at *
  obtain ⟨h, hh⟩ : ∃ h, w.heap.size + 1 = h := ⟨_, rfl⟩
  rw [hh] at HQ ⊢
  clear hh
  go_loopw [9] (fun ii wr => ∃ (k : Nat) (L : List (Nat × Int × Nat)), k ≤ 8 ∧ ii = .int .i64 k ∧ QS w (· < w.heap.size) w.heap.size h L wr ∧ Hp lt18 d L L.length 0 ∧ L.Perm ((q18 fun i => c.getD i 0).take k)) (fun ii _ => 8 - (intOf ii).toNat)
  case atStart => exact ⟨0, [], by omega, rfl, HQ.out, heap_none _ _, List.Perm.refl _⟩
  case round =>
    clear HQ
    obtain ⟨k, L, hk, rfl, hq, hp, hpm⟩ := hrel
    rcases Nat.lt_or_ge k 8 with hlt | hge
    · have hll : L.length = k := by rw [hpm.length_eq, List.length_take, q18_len]; omega
      have hx := HX.out k hlt
      have hix := HIX.out k hlt
      have HTK := Lib.hid (q18_next (fun i => c.getD i 0) k hlt)
      obtain ⟨x, hxx⟩ : ∃ x, c.getD k 0 = x := ⟨_, rfl⟩
      simp only [hxx] at HTK
      rw [hxx] at hx hix
      have HPU := Lib.hid (thpush_any d L (k, x, 0) wr hq (by omega) ⟨by simp only; omega, by simp only; omega, by simp only; omega⟩ hp)
      unfold tA PsP at HPU
      simp only at HPU
      have HK := Lib.hid hlt
      have HPM := Lib.hid hpm
      have hkI : (k : Int) < 8 := by omega
      clear hk hq hp hpm hll hx hxx hlt
      go_wp2_with fail
      refine HPU.out.mono ?_
      rintro e w4 ⟨R, rfl, hs, hp, hpm⟩
      have HS := Lib.hid hs
      have HP := Lib.hid hp
      have HPR := Lib.hid hpm
      clear hs hp hpm HPU
      go_wp2_with fail
      go_roundw
      case rel => exact ⟨k + 1, R, HK.out, by go_num, HS.out, HP.out, by rw [HTK.out]; exact HPR.out.trans (HPM.out.append_right _)⟩
      case measure =>
        have := HK.out
        simp [intOf] <;> omega
    · obtain rfl : k = 8 := by omega
      have HS := Lib.hid hq
      have HP := Lib.hid hp
      have HPM := Lib.hid hpm
      clear hk hge hq hp hpm
      go_wp2_with fail
      go_ret
      exact ⟨h, L, rfl, HS.out, HP.out, by rw [← List.take_of_length_le (show (q18 fun i => c.getD i 0).length ≤ 8 by rw [q18_len]; exact Nat.le_refl _)]; exact HPM.out⟩
end Go.Proofs.Ytkjbobgmnpifoaa
