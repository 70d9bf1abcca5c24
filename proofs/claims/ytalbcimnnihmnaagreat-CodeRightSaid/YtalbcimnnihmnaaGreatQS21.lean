/-
  Contracts and plain facts that the laws share; each piece is headed by what it holds and its conditions.
-/
import Derived.Test.YtalbcimnnihmnaaGreatQS20
import Derived.Test.YtalbcimnnihmnaaGreatQS3
import Derived.Test.YtalbcimnnihmnaaGreatQS5
import Derived.Deep.WholeRow

/- pulse's take and queued. Conditions: gains up to 32768, coefficients up to 2^20. -/
namespace Go.Proofs.YtalbcimnnihmnaaGreat
open Go.RowKit
open M
/-- A coefficient's value. -/
def cA (G : Int) (p : Nat × Int) : Value := .agg #[.int .i64 (p.1 : Int), .int .i64 G, .int .i64 p.2]
theorem QS14.setFar {w0 w : World} {F : Nat → Prop} {B h g : Nat} {G : Int} {l : List (Nat × Int)} (H : QS14 w0 F B h g G l w) {p : Addr} (h1 : p.block ≠ g) (h2 : p.block ≠ h) (h3 : ¬ F p.block) (u : Value) : QS14 w0 F B h g G l (w.setCell p u) := by
  obtain ⟨cap, hr, ho⟩ := H.v
  have hs : (w.setCell p u).heap.size = w.heap.size := by simp [World.setCell]
  exact ⟨⟨cap, hr.far (fun e => h2 e.symm) u, own_far_set14 ho (by simp [Value.ownBlock]; exact fun e => h1 e.symm) u⟩, H.hb, H.fg, H.fh, fun k hk => by rw [hs]; exact H.fl k hk, H.be.set h3 u, H.bd, H.ln⟩
theorem QS14.framed {w0 w1 w : World} {F K : Nat → Prop} {B h g : Nat} {G : Int} {l : List (Nat × Int)} (H : QS14 w1 K B h g G l w) (hk : ∀ k, F k → K k) (hb : KF14 F w0 w) : QS14 w0 F B h g G l w :=
  ⟨H.v, H.hb, fun e => H.fg (hk _ e), fun e => H.fh (hk _ e), fun k e => H.fl k (hk k e), hb, H.bd, H.ln⟩
theorem KF14.trans {F K : Nat → Prop} {w0 w1 w : World} (h : KF14 F w0 w1) (hk : ∀ k, F k → K k) (h2 : KF14 K w1 w) : KF14 F w0 w :=
  ⟨h2.os.trans h.os, h2.tape.trans h.tape, h2.output.trans h.output, Nat.le_trans h.size h2.size, fun k e => (h2.block k (hk k e)).trans (h.block k e)⟩
/-- .. over one block more that stays. -/
theorem QS14.guard {w0 w : World} {F : Nat → Prop} {B h g : Nat} {G : Int} {l : List (Nat × Int)} (H : QS14 w0 F B h g G l w) (o : Obj) : QS14 (w.alloc o) (fun k => F k ∨ k = w.heap.size) B h g G l (w.alloc o) := by
  have h1 := H.below ((Below.refl _ _).alloc (Nat.le_refl _) o)
  obtain ⟨_, _, hgl, hhl⟩ := H.far
  refine ⟨h1.v, H.hb, fun e => ?_, fun e => ?_, fun k hk => ?_, KF14.refl _ _, H.bd, H.ln⟩
  · rcases e with e | e
    · exact H.fg e
    · omega
  · rcases e with e | e
    · exact H.fh e
    · omega
  · have hs : (w.alloc o).heap.size = w.heap.size + 1 := by simp
    rw [hs]
    rcases hk with e | e
    · have := H.fl k e; omega
    · omega
/-- What take answers, and leaves. -/
def TkP14 (w0 : World) (F : Nat → Prop) (B h g : Nat) (G : Int) (d : Nat × Int) (L : List (Nat × Int)) (n : Nat) (e : Ending) (w' : World) : Prop :=
  ∃ R, e = .returned (cA G (L.getD 0 d)) ∧ QS14 w0 F B h g G R w' ∧ R.length = n ∧ Hp (lt14 G) d R R.length 0 ∧ L.Perm (L.getD 0 d :: R)
theorem coef_zero (w : World) : (zeroValue 93).run Tryz.prog w = .ok (.agg #[.int .i64 0, .int .i64 0, .int .i64 0]) w := by
  obtain ⟨i, h1, h2, _, _⟩ := coef_parts
  simp [zeroValue, typeInfo, h1, h2]
set_option maxRecDepth 100000 in
set_option maxHeartbeats 1000000 in
theorem take14_any {w0 : World} {F : Nat → Prop} {B h g : Nat} {G : Int} (d : Nat × Int) (L : List (Nat × Int)) (n : Nat) (w : World) (H : QS14 w0 F B h g G L w) (h0 : 0 ≤ G) (h1 : G ≤ 32768) (hl : L.length = n + 1) (hp : Hp (lt14 G) d L L.length 0) :
    Calls Tryz.prog 47 #[.pointer (some ⟨h, 0, none⟩)] w fun e w' => TkP14 w0 F B h g G d L n e w' := by
  have HH := Lib.hid H
  have HHM := Lib.hid fun o : Obj => (QS14.hm (w0 := w.alloc o) (F := fun k => F k ∨ k = w.heap.size) (B := B) (h := h) (g := g) d h0 h1)
  have HFF := Lib.hid (heap_pop (lt14 G) (lt14_ls G) d L n hl hp)
  have HLN := H.ln
  have HP := Lib.hid fun o : Obj => pop_any (lt14 G) d 90 (.pointer (some ⟨h, 0, none⟩)) _ _ _ 123 (fun p => .iface 93 (cA G p)) _ (HHM.out o) (fun args w => by kernel_rfl)
    (fun l w hs hl0 => ⟨_, meth_ptr m_pop Tryz.underlying90 w ⟨h, 0, none⟩ _, qpop_any d l w hs hl0⟩) L (w.alloc o) (H.guard o) (by omega) (by omega)
  obtain ⟨hne, hBg, hgl, hhl⟩ := H.far
  have HNE := Lib.hid (show w.heap.size ≠ g ∧ w.heap.size ≠ h by omega)
  have HRT : Hid (Row (w.alloc (.cells #[.int .i64 0, .int .i64 0, .int .i64 0] 93)) w.heap.size 93 #[.int .i64 0, .int .i64 0, .int .i64 0]) := Lib.hid (heap_alloc_new _ _)
  have hz := coef_zero
  have HL := Lib.hid (show L.length - 1 = n by omega)
  have hta := as_coef
  obtain ⟨⟨a, u⟩, hpa⟩ : ∃ p, L.getD 0 d = p := ⟨_, rfl⟩
  have HPA := Lib.hid hpa
  clear H h0 h1 hl hp hne hBg hgl hhl HLN hpa
  go_enter Tryz.func47, Tryz.ntmps47
  go_wp2_with fail
  refine (HP.out _).mono ?_
  rintro e w1 ⟨rfl, hst⟩
  rw [HL.out] at hst ⊢
  rw [HFF.out.1, HPA.out]
  have HST := Lib.hid hst
  have hrt := (hst.be.block w.heap.size (Or.inr rfl)).trans HRT.out
  have c0 := cell_of_row _ _ 0 _ _ _ hrt
  have c1 := cell_of_row _ _ 1 _ _ _ hrt
  have c2 := cell_of_row _ _ 2 _ _ _ hrt
  have f0 := frozen_of_row _ _ 0 _ _ hrt
  have f1 := frozen_of_row _ _ 1 _ _ hrt
  have f2 := frozen_of_row _ _ 2 _ _ hrt
  have HR1 : Hid (Row w1 w.heap.size 93 #[.int .i64 0, .int .i64 0, .int .i64 0]) := Lib.hid hrt
  clear hst hrt HP
  unfold cA
  go_wp2_with fail
  refine bodyPost_ret (v := cA G (a, u)) (results_cell_row Tryz.results47 _ _ w.heap.size 93 #[.int .i64 (a : Int), .int .i64 G, .int .i64 u] (0, 0) _ rfl (((HR1.out.set 0 _).set 1 _).set 2 _) Tryz.underlying93 rfl (by kernel_rfl)) rfl ?_
  have hk : KF14 F w0 w1 := (HH.out.be.more HH.out.fl ((Below.refl _ _).alloc (Nat.le_refl _) _)).trans (fun k e => Or.inl e) HST.out.be
  have hq := HST.out.framed (F := F) (fun k e => Or.inl e) hk
  have hf : ¬ F w.heap.size := fun e => by have := HH.out.fl _ e; omega
  have h6 := ((hq.setFar (p := ⟨w.heap.size, 0, none⟩) HNE.out.1 HNE.out.2 hf (.int .i64 (a : Int))).setFar (p := ⟨w.heap.size, 1, none⟩) HNE.out.1 HNE.out.2 hf (.int .i64 G)).setFar (p := ⟨w.heap.size, 2, none⟩) HNE.out.1 HNE.out.2 hf (.int .i64 u)
  exact ⟨_, by rw [HPA.out], h6, HFF.out.2.1, HFF.out.2.2.1, HFF.out.2.2.2⟩
/-- What Push leaves. -/
def PsP14 (w0 : World) (B h : Nat) (G : Int) (d : Nat × Int) (L : List (Nat × Int)) (x : Nat × Int) (e : Ending) (w' : World) : Prop :=
  ∃ R g, e = .returned (.tuple #[]) ∧ QS14 w0 (· < B) B h g G R w' ∧ Hp (lt14 G) d R R.length 0 ∧ R.Perm (L ++ [x])
set_option maxRecDepth 100000 in
theorem hpush_any {w0 : World} {B h g : Nat} {G : Int} (d : Nat × Int) (L : List (Nat × Int)) (x : Nat × Int) (w : World) (H : QS14 w0 (· < B) B h g G L w) (h0 : 0 ≤ G) (h1 : G ≤ 32768) (hl : L.length < 1000) (hx : -4194304 ≤ x.2 ∧ x.2 ≤ 4194304) (hp : Hp (lt14 G) d L L.length 0) :
    Calls Tryz.prog 42 #[.iface 90 (.pointer (some ⟨h, 0, none⟩)), .iface 93 (cA G x)] w fun e w' => PsP14 w0 B h G d L x e w' := by
  obtain ⟨h2, h3⟩ := heap_push (lt14 G) (lt14_ls G) d L x hp
  refine (push_any (lt14 G) d 90 (.pointer (some ⟨h, 0, none⟩)) (.iface 93 (cA G x)) _ _ _ 124 _ (HM.some (fun g => QS14.hm (w0 := w0) (F := (· < B)) (B := B) (h := h) (g := g) d h0 h1) g) (fun args w => by kernel_rfl) L x w
    ⟨_, meth_ptr m_push Tryz.underlying90 w ⟨h, 0, none⟩ _, qpush_any x.1 x.2 L w H hx hl⟩ (by omega)).mono ?_
  rintro e w' ⟨he, g', hs⟩
  exact ⟨_, g', he, hs, h2, h3⟩
/-- What queued answers. -/
def QdP14 (w : World) (G : Int) (d : Nat × Int) (u : Nat → Int) (e : Ending) (w' : World) : Prop :=
  ∃ h g L, e = .returned (.pointer (some ⟨h, 0, none⟩)) ∧ QS14 w (· < w.heap.size) w.heap.size h g G L w' ∧ Hp (lt14 G) d L L.length 0 ∧ L.Perm (r4 u)
set_option maxRecDepth 100000 in
set_option maxHeartbeats 1000000 in
theorem queued_any {G : Int} (d : Nat × Int) (c : List Int) (w : World) (hc : c.length = 4) (h0 : 0 ≤ G) (h1 : G ≤ 32768) (hx : ∀ j, j < 4 → -1048576 ≤ c.getD j 0 ∧ c.getD j 0 ≤ 1048576) :
    Calls Tryz.prog 45 #[.agg (iCells c), .int .i64 G] w fun e w' => QdP14 w G d (fun i => ab (c.getD i 0)) e w' := by
  have HIX := Lib.hid (index_four c hc)
  have HSC := Lib.hid (four_size c hc)
  have HX := Lib.hid hx
  have HG := Lib.hid (show 0 ≤ G ∧ G ≤ 32768 from ⟨h0, h1⟩)
  clear hx hc h0 h1
  go_enter Tryz.func45, Tryz.ntmps45
  go_wp2_with (refine wpList_load_row rfl 26 (.tmp 2) rfl w.heap.size rfl 26 (iCells c) (0, 0) _ ((Row.alloc (Row.alloc (heap_alloc_new _ _) _) _)) Tryz.underlying26 rfl HSC.out ?_)
  have hq : QS14 w (· < w.heap.size) w.heap.size (w.heap.size + 1 + 1) (w.heap.size + 1) G [] (((w.alloc (.cells (iCells c) 26)).alloc (.cells #[] 93)).alloc (.cells #[.slice (some ⟨w.heap.size + 1, 0, none⟩) 0 0] 120)) := by
    have hs1 : (w.alloc (.cells (iCells c) 26)).heap.size = w.heap.size + 1 := by simp
    have ho := (World.ownsRow_made (e := 93) (size := 3) (base := w.heap.size) (w.alloc (.cells (iCells c) 26)) #[] 0 (by omega) (by unfold maxLen; omega) rfl).alloc (.cells #[.slice (some ⟨w.heap.size + 1, 0, none⟩) 0 0] 120)
    rw [hs1] at ho
    refine ⟨⟨0, row_new _ _ (by simp) _ _, ho⟩, by omega, by omega, by omega, fun k hk => ?_, KF14.of ((((Below.refl _ _).alloc (Nat.le_refl _) _).alloc (by simp) _).alloc (by simp; omega) _), fun p hp => by simp at hp, by simp⟩
    simp; omega
  have HQ := Lib.hid hq
  clear hq
  generalize ((w.alloc (.cells (iCells c) 26)).alloc (.cells #[] 93)).alloc (.cells #[.slice (some ⟨w.heap.size + 1, 0, none⟩) 0 0] 120) = w3 at *
  obtain ⟨h, hh⟩ : ∃ h, w.heap.size + 1 + 1 = h := ⟨_, rfl⟩
  rw [hh] at HQ ⊢
  clear hh
  go_loopw [11] (fun ii wr => ∃ (k g : Nat) (L : List (Nat × Int)), k ≤ 4 ∧ ii = .int .i64 k ∧ QS14 w (· < w.heap.size) w.heap.size h g G L wr ∧ Hp (lt14 G) d L L.length 0 ∧ L.Perm ((r4 fun i => ab (c.getD i 0)).take k)) (fun ii _ => 4 - (intOf ii).toNat)
  case atStart => exact ⟨0, _, [], by omega, rfl, HQ.out, heap_none _ _, List.Perm.refl _⟩
  case round =>
    clear HQ
    obtain ⟨k, g, L, hk, rfl, hq, hp, hpm⟩ := hrel
    rcases Nat.lt_or_ge k 4 with hlt | hge
    · have hll : L.length = k := by rw [hpm.length_eq, List.length_take]; show min k 4 = k; omega
      have hx := HX.out k hlt
      have hix := HIX.out k hlt
      obtain ⟨x, hxx⟩ : ∃ x, c.getD k 0 = x := ⟨_, rfl⟩
      rw [hxx] at hx hix
      have hb : 0 ≤ ab x ∧ ab x ≤ 1048576 := by unfold ab; omega
      have SZ := fun w => psize_any x w (by omega) (by omega)
      have HPU := Lib.hid (hpush_any d L (k, ab x) wr hq HG.out.1 HG.out.2 (by omega) (by simp only; omega) hp)
      have HTK : Hid ((r4 fun i => ab (c.getD i 0)).take (k + 1) = (r4 fun i => ab (c.getD i 0)).take k ++ [(k, ab x)]) := Lib.hid (by
        rw [← hxx]
        have h : k = 0 ∨ k = 1 ∨ k = 2 ∨ k = 3 := by omega
        rcases h with rfl | rfl | rfl | rfl <;> rfl)
      obtain ⟨y, hy⟩ : ∃ y, ab x = y := ⟨_, rfl⟩
      rw [hy] at HPU HTK
      simp only [hy] at SZ
      unfold cA at HPU
      simp only at HPU
      have HK := Lib.hid hlt
      have HPM := Lib.hid hpm
      have hkI : (k : Int) < 4 := by omega
      clear hk hq hp hpm hll hx hxx hb hy hlt
      go_wp2_with fail
      refine (SZ _).mono ?_
      rintro e w2 ⟨rfl, rfl⟩
      clear SZ
      go_wp2_with fail
      refine HPU.out.mono ?_
      rintro e w4 ⟨R, g', rfl, hs, hp, hpm⟩
      have HS := Lib.hid hs
      have HP := Lib.hid hp
      have HPR := Lib.hid hpm
      clear hs hp hpm HPU
      go_wp2_with fail
      go_roundw
      case rel => exact ⟨k + 1, g', R, HK.out, by go_num, HS.out, HP.out, by rw [HTK.out]; exact HPR.out.trans (HPM.out.append_right _)⟩
      case measure =>
        have := HK.out
        simp [intOf] <;> omega
    · obtain rfl : k = 4 := by omega
      have HS := Lib.hid hq
      have HP := Lib.hid hp
      have HPM := Lib.hid hpm
      clear hk hge hq hp hpm
      go_wp2_with fail
      go_ret
      exact ⟨h, g, L, rfl, HS.out, HP.out, HPM.out⟩
end Go.Proofs.YtalbcimnnihmnaaGreat

/- Two results, one or both of them whole arrays. No program is named here. No conditions. -/
namespace Go.Proofs.YtalbcimnnihmnaaGreat
open Go.RowKit
open M
theorem results_row_tmp {P : Program} {fn : Func} {p u : Tmp} {ty : TypeId} (h : fn.results = #[.cell p ty, .tmp u]) (tmps : Array Value) (w : World) (g : Nat) (t : TypeId) (cs : Array Value) (fr : Nat × Nat) (d : TypeDesc)
    (hp : tmps.getD p undef = .pointer (some ⟨g, 0, none⟩)) (hg : w.heap[g]? = some (.cells cs t fr))
    (hu : P.underlying ty = some d) (hd : (match d with | .struct _ | .array _ _ => true | _ => false) = true) (hi : (P.info? ty).map (·.size) = some cs.size) :
    (results fn tmps).run P w = .ok (.tuple #[.agg cs, tmps.getD u undef]) w := by
  rw [results_cell_tmp h, hp]
  simp [asAddr, run_loadVar_row w g t ty cs fr d hg hu hd hi]
theorem results_row_row {P : Program} {fn : Func} {p q : Tmp} {ty : TypeId} (h : fn.results = #[.cell p ty, .cell q ty]) (tmps : Array Value) (w : World) (g g2 : Nat) (t t2 : TypeId) (cs cs2 : Array Value) (fr fr2 : Nat × Nat) (d : TypeDesc)
    (hp : tmps.getD p undef = .pointer (some ⟨g, 0, none⟩)) (hg : w.heap[g]? = some (.cells cs t fr)) (hq : tmps.getD q undef = .pointer (some ⟨g2, 0, none⟩)) (hg2 : w.heap[g2]? = some (.cells cs2 t2 fr2))
    (hu : P.underlying ty = some d) (hd : (match d with | .struct _ | .array _ _ => true | _ => false) = true) (hi : (P.info? ty).map (·.size) = some cs.size) (hi2 : (P.info? ty).map (·.size) = some cs2.size) :
    (results fn tmps).run P w = .ok (.tuple #[.agg cs, .agg cs2]) w := by
  have hp' : tmps[p]?.getD undef = .pointer (some ⟨g, 0, none⟩) := by simpa using hp
  have hq' : tmps[q]?.getD undef = .pointer (some ⟨g2, 0, none⟩) := by simpa using hq
  simp [results, h, hp', hq', asAddr, Sem.run_bind, run_loadVar_row w g t ty cs fr d hg hu hd hi, run_loadVar_row w g2 t2 ty cs2 fr2 d hg2 hu hd hi2]
end Go.Proofs.YtalbcimnnihmnaaGreat

/- pulse's Find, walked. Conditions: four coefficients up to 2^20, a step from 0 to 15, 0 to 12 pulses. -/
namespace Go.Proofs.YtalbcimnnihmnaaGreat
open Go.RowKit
open M
theorem QS14.again {w0 w : World} {F : Nat → Prop} {B h g : Nat} {G : Int} {l : List (Nat × Int)} (H : QS14 w0 F B h g G l w) : QS14 w F B h g G l w :=
  ⟨H.v, H.hb, H.fg, H.fh, H.fl, KF14.refl _ _, H.bd, H.ln⟩
theorem QS14.setAny {w0 w : World} {F : Nat → Prop} {B h g : Nat} {G : Int} {l : List (Nat × Int)} (H : QS14 w0 F B h g G l w) {p : Addr} (h1 : p.block ≠ g) (h2 : p.block ≠ h) (u : Value) : QS14 (w.setCell p u) F B h g G l (w.setCell p u) := by
  obtain ⟨cap, hr, ho⟩ := H.v
  have hs : (w.setCell p u).heap.size = w.heap.size := by simp [World.setCell]
  exact ⟨⟨cap, hr.far (fun e => h2 e.symm) u, own_far_set14 ho (by simp [Value.ownBlock]; exact fun e => h1 e.symm) u⟩, H.hb, H.fg, H.fh, fun k hk => by rw [hs]; exact H.fl k hk, KF14.refl _ _, H.bd, H.ln⟩
theorem QS14.drewn {w0 w : World} {F : Nat → Prop} {B h g : Nat} {G : Int} {l : List (Nat × Int)} (H : QS14 w0 F B h g G l w) : QS14 w.drew F B h g G l w.drew :=
  ⟨H.v, H.hb, H.fg, H.fh, H.fl, KF14.refl _ _, H.bd, H.ln⟩
set_option maxRecDepth 100000 in
set_option maxHeartbeats 2000000 in
theorem find_any (c : List Int) (s k : Nat) (w : World) (hc : c.length = 4) (hs : s ≤ 15) (hk : k ≤ 12) (hx : ∀ j, j < 4 → -1048576 ≤ c.getD j 0 ∧ c.getD j 0 ≤ 1048576) :
    Calls Tryz.prog 16 #[.agg (iCells c), .int .i64 (s : Int), .int .i64 (k : Int)] w fun e w' => e = .returned (.tuple #[.agg (iCells (fl4 (fun i => c.getD i 0) ((2 : Int) ^ s) k)), .int .i64 0]) ∧ Below w.heap.size w w' := by
  have HWC := Lib.hid fun w => within_yes 1048576 c w hc (by omega) (by omega) hx
  have hG := pow15 s hs
  have HS := fun w => step_any s w hs
  have HGN := fun w => gain_any s w hs
  obtain ⟨G, hGG⟩ : ∃ G, (2 : Int) ^ s = G := ⟨_, rfl⟩
  rw [hGG] at hG
  simp only [hGG] at HGN
  rw [hGG]
  have HQD := Lib.hid fun w => queued_any (0, 0) c w hc (by omega) hG.1 hx
  have HSC := Lib.hid (four_size c hc)
  have hsI : (s : Int) ≤ 15 := by omega
  have hkI : (k : Int) ≤ 12 := by omega
  have HKK := Lib.hid hk
  have hk1 : decide ((k : Int) < 0) = false := decide_eq_false (by omega)
  have hk2 : decide ((12 : Int) < (k : Int)) = false := decide_eq_false (by omega)
  have HLC := Lib.hid hc
  obtain ⟨x0, x1, x2, x3, rfl⟩ := four_list c hc
  have HX := Lib.hid hx
  have HG := Lib.hid hG
  have hz := pulses_zero
  have hr : Row ((w.alloc (.cells (iCells [x0, x1, x2, x3]) 26)).alloc (.cells (iCells z4) 27)) w.heap.size 26 (iCells [x0, x1, x2, x3]) := heap_alloc2_old _ _ _
  have HR1 : Hid (Row ((w.alloc (.cells (iCells [x0, x1, x2, x3]) 26)).alloc (.cells (iCells z4) 27)) (w.heap.size + 1) 27 (iCells z4)) := Lib.hid (heap_alloc2_new _ _ _)
  have HB : Hid (Below w.heap.size w ((w.alloc (.cells (iCells [x0, x1, x2, x3]) 26)).alloc (.cells (iCells z4) 27))) := Lib.hid (((Below.refl _ _).alloc (Nat.le_refl _) _).alloc (by simp) _)
  have HR := Lib.hid hr
  clear hx hs hk hG hGG hr hc
  go_enter Tryz.func16, Tryz.ntmps16
  go_wp2_with fail
  refine (HS _).mono ?_
  rintro e w1 ⟨rfl, rfl⟩
  generalize (w.alloc (.cells (iCells [x0, x1, x2, x3]) 26)).alloc (.cells (iCells z4) 27) = w1 at *
  obtain ⟨n0, hn0⟩ : ∃ n0, w.heap.size = n0 := ⟨_, rfl⟩
  have HN0 := Lib.hid fun _ : Unit => hn0
  rw [hn0] at HR HR1 HB ⊢
  clear hn0 HS
  go_wp2_with (refine wpList_load_row rfl 26 (.tmp 3) rfl n0 rfl 26 (iCells [x0, x1, x2, x3]) (0, 0) _ HR.out Tryz.underlying26 rfl HSC.out ?_)
  refine (HWC.out _).mono ?_
  rintro e w2 ⟨rfl, hb⟩
  have HR := Lib.hid (HR.out.box hb)
  have HR1 := Lib.hid (HR1.out.box hb)
  have HB := Lib.hid (HB.out.trans (hb.mono (by have := HB.out.size; have := HN0.out (); omega)))
  clear hb HWC
  go_upto_region 6 with fail
  have HM : Hid (Row (w2.alloc (.cells (iCells z4) 27)) w2.heap.size 27 (iCells z4)) := Lib.hid (heap_alloc_new _ _)
  have hr := HR.out.alloc (.cells (iCells z4) 27)
  have HR := Lib.hid hr
  have HMB : Hid (n0 + 1 < w2.heap.size) := Lib.hid HR1.out.lt
  have HR1 := Lib.hid (HR1.out.alloc (.cells (iCells z4) 27))
  have HB := Lib.hid (HB.out.alloc (by have := HB.out.size; have := HN0.out (); omega) (.cells (iCells z4) 27))
  generalize hW : w2.alloc (.cells (iCells z4) 27) = w3 at *
  obtain ⟨m, hm⟩ : ∃ m, w2.heap.size = m := ⟨_, rfl⟩
  rw [hm] at HM HMB ⊢
  clear hm hW
  have c0 := i_at (show Row w3.drew n0 26 (iCells [x0, x1, x2, x3]) from hr) 0 (by simp)
  have c1 := i_at (show Row w3.drew n0 26 (iCells [x0, x1, x2, x3]) from hr) 1 (by simp)
  have c2 := i_at (show Row w3.drew n0 26 (iCells [x0, x1, x2, x3]) from hr) 2 (by simp)
  have c3 := i_at (show Row w3.drew n0 26 (iCells [x0, x1, x2, x3]) from hr) 3 (by simp)
  simp only [List.getD_cons_zero, List.getD_cons_succ] at c0 c1 c2 c3
  clear hr
  refine wp_region_still_tail 3 (by kernel_rfl) (by kernel_rfl) ?_
  simp only [List.take_succ_cons, List.take_zero, List.drop_succ_cons, List.drop_zero]
  repeat still_step
  still_call (HGN _)
  repeat still_step
  refine wpStill_nil ?_
  change wpList _ _ _ _ _ w3.drew
  go_wp2_with fail
  refine (HQD.out _).mono ?_
  rintro e w4 ⟨h, g, L, rfl, hq, hp, hpm⟩
  clear c0 c1 c2 c3 HQD HGN
  have HB3 := Lib.hid (show Below w3.drew.heap.size w3.drew w4 from hq.be.below)
  obtain ⟨B, hBB⟩ : ∃ B, w3.drew.heap.size = B := ⟨_, rfl⟩
  have HLT : Hid (n0 + 1 < m ∧ m < B) := Lib.hid ⟨HMB.out, by rw [← hBB]; exact HM.out.lt⟩
  rw [hBB] at hq HB3
  have HWB := Lib.hid fun _ : Unit => hBB
  have HR := Lib.hid ((show Row w3.drew n0 26 (iCells [x0, x1, x2, x3]) from HR.out).below HB3.out (by have := HLT.out; omega))
  have HR1 := Lib.hid ((show Row w3.drew (n0 + 1) 27 (iCells z4) from HR1.out).below HB3.out (by have := HLT.out; omega))
  have HM := Lib.hid ((show Row w3.drew m 27 (iCells z4) from HM.out).below HB3.out HLT.out.2)
  have HB := Lib.hid ((below_drew1 HB.out).trans (HB3.out.mono (by have := HLT.out; omega)))
  have HQ := Lib.hid hq.again
  have HP := Lib.hid hp
  have HPM := Lib.hid hpm
  clear hq hp hpm hBB HB3
  generalize hcc : [x0, x1, x2, x3] = c at *
  have HCE := Lib.hid fun _ : Unit => hcc
  clear hcc
  obtain ⟨cf, hcf⟩ : ∃ cf : Nat → Int, (fun i => c.getD i 0) = cf := ⟨_, rfl⟩
  have hcg : ∀ i, c.getD i 0 = cf i := fun i => congrFun hcf i
  simp only [hcg] at HPM HX
  have HCG := Lib.hid hcg
  have HCF := Lib.hid fun _ : Unit => hcf
  clear hcf hcg
  have HR1 := Lib.hid HR1.out
  go_wp2_with fail
  go_loopw [32] (fun ii wr => ∃ (n g : Nat) (L : List (Nat × Int)), n ≤ k ∧ ii = .int .i64 n ∧ QS14 wr (· < B) B h g G L wr ∧ Hp (lt14 G) (0, 0) L L.length 0 ∧ L.Perm (r4 (lf4 (fun i => ab (cf i)) G n)) ∧ Row wr m 27 (iCells (fl4 cf G n)) ∧ Row wr n0 26 (iCells c) ∧ Row wr (n0 + 1) 27 (iCells z4) ∧ Below n0 w wr) (fun ii _ => k - (intOf ii).toNat)
  case atStart => exact ⟨0, g, L, Nat.zero_le _, rfl, HQ.out, HP.out, by rw [lf4_zero]; exact HPM.out, by rw [fl4_zero]; exact HM.out, HR.out, HR1.out, HB.out⟩
  case round =>
    clear HQ HP HPM HM HR HR1 HB
    obtain ⟨n, g, L, hn, rfl, hq, hp, hpm, hRy, hRc, hRz, hB⟩ := hrel
    rcases Nat.lt_or_ge n k with hlt | hge
    · have hkn := HKK.out
      obtain ⟨b, hb⟩ : ∃ b, b = bs4 fun i => dl (ab (cf i)) G (fd4 (fun i => ab (cf i)) G n i) := ⟨_, rfl⟩
      have hb4 : b < 4 := by rw [hb]; exact (bs4_all _).1
      have hf := r4_first G _ (0, 0) L hpm hp _ (fun i _ => lf4_dl (fun i => ab (cf i)) G n i)
      rw [← hb] at hf
      have hbd := lf4_bd (fun i => ab (cf i)) G n b hb4 (by omega) (by have := HG.out; omega) HG.out.1 (by have := HX.out b hb4; unfold ab; omega)
      have hbd2 := lf4_bd (fun i => ab (cf i)) G (n + 1) b hb4 (by omega) (by have := HG.out; omega) HG.out.1 (by have := HX.out b hb4; unfold ab; omega)
      have hnx := lf4_next (fun i => ab (cf i)) G n b hb
      have hfb := fnd_bd cf G n b hb4
      have hfn := fl4_next cf G n b hb4 hb
      have hll : L.length = 3 + 1 := hpm.length_eq
      have hr4 := fun (R : List (Nat × Int)) (hr : L.Perm (L.getD 0 (0, 0) :: R)) => r4_next (lf4 (fun i => ab (cf i)) G n) (0, 0) L R b (lf4 (fun i => ab (cf i)) G n b - G) hb4 hpm hf hr
      rw [← hnx] at hr4
      rw [hnx] at hbd2
      unfold gup at hbd2
      rw [if_pos rfl] at hbd2
      have HTK := Lib.hid (take14_any (0, 0) L 3 wr hq (by have := HG.out; omega) HG.out.1 hll hp)
      unfold TkP14 at HTK
      have HR4 := Lib.hid hr4
      have HF := Lib.hid hf
      have HFN := Lib.hid hfn
      have HBD := Lib.hid hbd2
      have HRY := Lib.hid hRy
      have HRC := Lib.hid hRc
      have HRZ := Lib.hid hRz
      have HBL := Lib.hid hB
      have HK := Lib.hid hlt
      have hnI : (n : Int) < (k : Int) := by omega
      have HB4 := Lib.hid hb4
      have HFB := Lib.hid hfb
      obtain ⟨u, hu⟩ : ∃ u, lf4 (fun i => ab (cf i)) G n b = u := ⟨_, rfl⟩
      rw [hu] at HF HR4 HBD hbd
      have HBU := Lib.hid hbd
      clear hb hb4 hf hbd hbd2 hnx hfb hfn hll hr4 hu hn hq hp hpm hRy hRc hRz hB hlt hkn
      go_wp2_with fail
      refine HTK.out.mono ?_
      rintro e w5 ⟨R, rfl, hq5, hl5, hp5, hm5⟩
      rw [HF.out]
      unfold cA
      simp only
      have HB5 : Hid (Below B wr w5) := Lib.hid hq5.be.below
      have HRY := Lib.hid (HRY.out.below HB5.out HLT.out.2)
      have HRC := Lib.hid (HRC.out.below HB5.out (by have := HLT.out; omega))
      have HRZ := Lib.hid (HRZ.out.below HB5.out (by have := HLT.out; omega))
      have HBL := Lib.hid (HBL.out.trans (HB5.out.mono (by have := HLT.out; omega)))
      have HQ5 := Lib.hid hq5
      have HL5 := Lib.hid hl5
      have HP5 := Lib.hid hp5
      have HM5 := Lib.hid (HR4.out R hm5)
      have hzc := coef_zero
      clear hq5 hl5 hp5 hm5 HTK HR4 HB5 HF
      go_upto_region 10 with fail
      have HQ6 := Lib.hid (HQ5.out.below ((Below.refl _ _).alloc (Nat.le_refl _) (.cells #[.int .i64 (b : Int), .int .i64 G, .int .i64 u] 93))).again
      have HRY := Lib.hid (HRY.out.alloc (.cells #[.int .i64 (b : Int), .int .i64 G, .int .i64 u] 93))
      have HRC := Lib.hid (HRC.out.alloc (.cells #[.int .i64 (b : Int), .int .i64 G, .int .i64 u] 93))
      have HRZ := Lib.hid (HRZ.out.alloc (.cells #[.int .i64 (b : Int), .int .i64 G, .int .i64 u] 93))
      have HBL := Lib.hid (HBL.out.alloc (by have h1 := HBL.out.size; have h2 := HN0.out (); omega) (.cells #[.int .i64 (b : Int), .int .i64 G, .int .i64 u] 93))
      have HNX : Hid (Row (w5.alloc (.cells #[.int .i64 (b : Int), .int .i64 G, .int .i64 u] 93)) w5.heap.size 93 #[.int .i64 (b : Int), .int .i64 G, .int .i64 u]) := Lib.hid (heap_alloc_new _ _)
      have hfar := HQ5.out.far
      have HNE : Hid (w5.heap.size ≠ g ∧ w5.heap.size ≠ h ∧ m ≠ g ∧ m ≠ h ∧ m ≠ w5.heap.size ∧ n0 ≠ m ∧ n0 + 1 ≠ m ∧ n0 ≠ w5.heap.size ∧ n0 + 1 ≠ w5.heap.size ∧ n0 ≤ w5.heap.size) := Lib.hid (by
        have h1 := HLT.out
        have h2 := HQ5.out.hb
        omega)
      clear HQ5 hfar
      generalize w5.alloc (.cells #[.int .i64 (b : Int), .int .i64 G, .int .i64 u] 93) = w6 at *
      obtain ⟨nx, hnx⟩ : ∃ nx, w5.heap.size = nx := ⟨_, rfl⟩
      rw [hnx] at HNX HNE ⊢
      clear hnx
      have a0 : w6.drew.cell? ⟨nx, 0, none⟩ = some (.int .i64 (b : Int)) := cell_of_row _ _ 0 _ _ _ HNX.out
      have a1 := i_at (show Row w6.drew m 27 (iCells (fl4 cf G n)) from HRY.out) b HB4.out
      have a2 := i_at (show Row w6.drew n0 26 (iCells c) from HRC.out) b (by rw [HLC.out]; exact HB4.out)
      have a3 := (show Row w6.drew m 27 (iCells (fl4 cf G n)) from HRY.out).free b
      rw [fl4_get _ _ _ _ HB4.out] at a1
      rw [HCG.out] at a2
      obtain ⟨y, hy⟩ : ∃ y, fnd cf G n b = y := ⟨_, rfl⟩
      obtain ⟨x, hxx⟩ : ∃ x, cf b = x := ⟨_, rfl⟩
      rw [hy] at a1 HFN HFB
      rw [hxx] at a2 HFN
      have SG := fun w => sign_any x w
      obtain ⟨z, hz2⟩ : ∃ z : Int, (if 0 ≤ x then 1 else -1) = z := ⟨_, rfl⟩
      have hzb : -1 ≤ z ∧ z ≤ 1 := by rw [← hz2]; split <;> omega
      simp only [hz2] at SG
      rw [hz2] at HFN
      have hyb := HFB.out
      have hkb := HKK.out
      have hnb := HK.out
      have e1 : IntKind.i64.wrap (y + z) = y + z := wi_id _ (by omega) (by omega)
      have e1' : wrap64 (y + z) = y + z := wr_id14 _ (by omega) (by omega)
      have hbI : (b : Int) < 4 := by have := HB4.out; omega
      have hbN := HB4.out
      clear hy hxx hz2 hzb hyb hkb hnb
      refine wp_region_still_tail 10 (by kernel_rfl) (by kernel_rfl) ?_
      simp only [List.take_succ_cons, List.take_zero, List.drop_succ_cons, List.drop_zero]
      repeat still_step
      still_call (SG _)
      repeat still_step
      refine wpStill_nil ?_
      change wpList _ _ _ _ _ w6.drew
      go_upto_region 11 with fail
      clear a0 a1 a2 a3 SG e1 e1' hbI hbN
      have HQ7 := Lib.hid ((HQ6.out.setAny (p := ⟨m, b, none⟩) HNE.out.2.2.1 HNE.out.2.2.2.1 (.int .i64 (y + z))).drewn)
      have HRY7 : Hid (Row (w6.setCell ⟨m, b, none⟩ (.int .i64 (y + z))).drew m 27 (iCells (fl4 cf G (n + 1)))) := Lib.hid (by
        rw [← HFN.out, ← iCells_set]
        exact HRY.out.set b _)
      have HRC7 := Lib.hid (show Row (w6.setCell ⟨m, b, none⟩ (.int .i64 (y + z))).drew n0 26 (iCells c) from HRC.out.far HNE.out.2.2.2.2.2.1 _)
      have HRZ7 := Lib.hid (show Row (w6.setCell ⟨m, b, none⟩ (.int .i64 (y + z))).drew (n0 + 1) 27 (iCells z4) from HRZ.out.far HNE.out.2.2.2.2.2.2.1 _)
      have HNX7 := Lib.hid (show Row (w6.setCell ⟨m, b, none⟩ (.int .i64 (y + z))).drew nx 93 #[.int .i64 (b : Int), .int .i64 G, .int .i64 u] from HNX.out.far (fun e => HNE.out.2.2.2.2.1 e.symm) _)
      have HBL7 := Lib.hid (below_drew1 (Below.setCell HBL.out (p := ⟨m, b, none⟩) (by have := HLT.out; simp only; omega) (.int .i64 (y + z))))
      clear HQ6 HRY HRC HRZ HNX HBL
      generalize (w6.setCell ⟨m, b, none⟩ (.int .i64 (y + z))).drew = w7 at *
      have a1 := cell_of_row _ _ 1 _ _ _ HNX7.out
      have a2 := cell_of_row _ _ 2 _ _ _ HNX7.out
      have a3 := HNX7.out.free 2
      have e1 : IntKind.i64.wrap (u - G) = u - G := wi_id _ (by have := HBD.out; omega) (by have := HBD.out; omega)
      have e1' : wrap64 (u - G) = u - G := wr_id14 _ (by have := HBD.out; omega) (by have := HBD.out; omega)
      go_upto_region 12 with fail
      have HQ8 := Lib.hid (HQ7.out.setAny (p := ⟨nx, 2, none⟩) HNE.out.1 HNE.out.2.1 (.int .i64 (u - G)))
      have HRY8 := Lib.hid (HRY7.out.far (p := ⟨nx, 2, none⟩) HNE.out.2.2.2.2.1 (.int .i64 (u - G)))
      have HRC8 := Lib.hid (HRC7.out.far (p := ⟨nx, 2, none⟩) HNE.out.2.2.2.2.2.2.2.1 (.int .i64 (u - G)))
      have HRZ8 := Lib.hid (HRZ7.out.far (p := ⟨nx, 2, none⟩) HNE.out.2.2.2.2.2.2.2.2.1 (.int .i64 (u - G)))
      have HNX8 : Hid (Row (w7.setCell ⟨nx, 2, none⟩ (.int .i64 (u - G))) nx 93 #[.int .i64 (b : Int), .int .i64 G, .int .i64 (u - G)]) := Lib.hid (HNX7.out.set 2 _)
      have HBL8 := Lib.hid (Below.setCell HBL7.out (p := ⟨nx, 2, none⟩) HNE.out.2.2.2.2.2.2.2.2.2 (.int .i64 (u - G)))
      clear HQ7 HRY7 HRC7 HRZ7 HNX7 HBL7 a1 a2 a3
      generalize w7.setCell ⟨nx, 2, none⟩ (.int .i64 (u - G)) = w8 at *
      obtain ⟨u2, hu2⟩ : ∃ u2, u - G = u2 := ⟨_, rfl⟩
      rw [hu2] at HNX8 HBD HM5
      clear hu2 e1 e1'
      have a0 := cell_of_row _ _ 0 _ _ _ HNX8.out
      have a1 := cell_of_row _ _ 1 _ _ _ HNX8.out
      have a2 := cell_of_row _ _ 2 _ _ _ HNX8.out
      have HPU := Lib.hid (hpush_any (0, 0) R (b, u2) w8 HQ8.out (by have := HG.out; omega) HG.out.1 (by rw [HL5.out]; omega) HBD.out HP5.out)
      unfold cA PsP14 at HPU
      simp only at HPU
      go_wp2_with fail
      refine HPU.out.mono ?_
      rintro e w9 ⟨R9, g9, rfl, hq9, hp9, hm9⟩
      have HB9 : Hid (Below B w8 w9) := Lib.hid hq9.be.below
      have HQ9 := Lib.hid hq9.again
      have HP9 := Lib.hid hp9
      have HM9 := Lib.hid (hm9.trans HM5.out)
      clear hq9 hp9 hm9 HPU a0 a1 a2
      go_wp2_with fail
      go_roundw
      case rel => exact ⟨n + 1, g9, R9, HK.out, by go_num, HQ9.out, HP9.out, HM9.out, HRY8.out.below HB9.out HLT.out.2, HRC8.out.below HB9.out (by have := HLT.out; omega), HRZ8.out.below HB9.out (by have := HLT.out; omega), HBL8.out.trans (HB9.out.mono (by have := HLT.out; omega))⟩
      case measure =>
        have := HK.out
        simp [intOf] <;> omega
    · obtain rfl : n = k := by omega
      have HRY := Lib.hid hRy
      have HRZ := Lib.hid hRz
      have HBL := Lib.hid hB
      have HSF := Lib.hid (pulses_size (fl4 cf G n) rfl)
      have HSS := Lib.hid (four_same z4 (fl4 cf G n) rfl rfl)
      clear hn hq hp hpm hRy hRc hRz hB hge
      go_wp2_with (first
        | (refine wpList_load_row rfl 27 (.tmp 8) rfl m rfl 27 (iCells (fl4 cf G n)) (0, 0) _ HRY.out Tryz.underlying27 rfl HSF.out ?_)
        | (refine wpList_store_row rfl 27 (.tmp 6) (.tmp 59) rfl (n0 + 1) (iCells (fl4 cf G n)) rfl rfl 27 (iCells z4) HRZ.out HSF.out HSS.out (iCells_one _) ?_)
        | (refine bodyPost_ret (v := .tuple #[.agg (iCells (fl4 cf G n)), .int .i64 0]) (results_row_tmp Tryz.results16 _ _ (n0 + 1) 27 (iCells (fl4 cf G n)) (0, 0) _ rfl (Row.setRow HRZ.out _) Tryz.underlying27 rfl HSF.out) rfl ⟨?_, ?_⟩))
      · rw [HCE.out (), HCF.out ()]
      · rw [HN0.out ()]
        exact below_setRow HBL.out (by omega) _
end Go.Proofs.YtalbcimnnihmnaaGreat

/- Layer 18: what give's Pulses is to answer, as a condition. No conditions but those that each fact names. -/
namespace Go.Proofs.YtalbcimnnihmnaaGreat
open Go.RowKit
open M
/-- Whether steps and bits may be. -/
def ok18 (l : List Int) (n : Int) : Prop := rt17 l = true ∧ 0 ≤ n ∧ n ≤ 1048576
instance (l : List Int) (n : Int) : Decidable (ok18 l n) := by unfold ok18; infer_instance
/-- How many pulses each band has, of any ints. -/
def puI (l : List Int) (n : Int) : List Int := if ok18 l n then kl18 (giv (fun b => l.getD b 0) n.toNat) else e8z
def puE (l : List Int) (n : Int) : Int := if ok18 l n then 0 else 1
def PulOk : Prop := ∀ (l : List Int) (n : Int) (w : World), l.length = 8 → Calls Tryz.prog 15 #[.agg (iCells l), .int .i64 n] w fun e w' => e = .returned (.tuple #[.agg (iCells (puI l n)), .int .i64 (puE l n)]) ∧ Below w.heap.size w w'
theorem puI_len (l : List Int) (n : Int) : (puI l n).length = 8 := by
  unfold puI
  split
  · exact kl18_len _
  · simp [e8z]
end Go.Proofs.YtalbcimnnihmnaaGreat
