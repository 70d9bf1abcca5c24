/-
  Contracts and plain facts that the laws share; each piece is headed by what it holds and its conditions.
-/
import Derived.Test.YtalbcimnnihmnaaGreatQS19
import Derived.Laws.AppendOwn
import Derived.Laws.OwnMore
import Derived.Deep.RegionHeld3
import Derived.Deep.RegionLaw

/- container/heap's up, over any value with methods. Conditions: its methods do to the list that it stands for what they say. -/
namespace Go.Proofs.YtalbcimnnihmnaaGreat
open Go.RowKit
open M
def UpP {α : Type} (lt : α → α → Bool) (d : α) (l : List α) (j : Nat) (St : List α → World → Prop) (e : Ending) (w' : World) : Prop := e = .returned (.tuple #[]) ∧ St (hup lt d (l.length + 1) l j) w'
set_option maxRecDepth 100000 in
set_option maxHeartbeats 1000000 in
theorem up_any {α : Type} (lt : α → α → Bool) (d : α) (T : TypeId) (rv : Value) (gn gl gs : Nat) (St : List α → World → Prop) (H : HM lt d T rv gn gl gs St) (l : List α) (i : Nat) (w : World) (hs : St l w) (hi : i < l.length) (hl : l.length ≤ 1000000) :
    Calls Tryz.prog 68 #[.iface T rv, .int .i64 (i : Int)] w fun e w' => UpP lt d l i St e w' := by
  have HS := Lib.hid hs
  have HH := Lib.hid H
  have eL := H.el
  have eS := H.es
  have HLN := Lib.hid hi
  have HLB := Lib.hid hl
  clear hs H hi hl
  go_enter Tryz.func68, Tryz.ntmps68
  go_wp2
  go_loopw [1] (fun jj wr => ∃ (j f : Nat) (m : List α), jj = .int .i64 j ∧ hup lt d (f + 1) m j = hup lt d (l.length + 1) l i ∧ St m wr ∧ m.length = l.length ∧ j ≤ f ∧ j < l.length) (fun jj _ => (intOf jj).toNat)
  case atStart => exact ⟨i, l.length, l, rfl, rfl, HS.out, rfl, by have := HLN.out; omega, HLN.out⟩
  case round =>
    clear HS HLN
    obtain ⟨j, f, m, rfl, hd, hst, hml, hjf, hjl⟩ := hrel
    have hjI : (j : Int) ≤ 1000000 := by have := HLB.out; omega
    have HD := Lib.hid hd
    have HST := Lib.hid hst
    have HML := Lib.hid hml
    have HJF := Lib.hid hjf
    have HJL := Lib.hid hjl
    clear hd hst hml hjf hjl
    by_cases h0 : j = 0
    · subst h0
      have HDN : Hid (hup lt d (f + 1) m 0 = m) := Lib.hid (by unfold hup; exact if_pos rfl)
      go_wp2_with fail
      go_end0
      exact ⟨rfl, by rw [← HD.out, HDN.out]; exact HST.out⟩
    · obtain ⟨p, hp⟩ : ∃ p, p = pa j := ⟨_, rfl⟩
      have hpj : p < j := by unfold pa at hp; omega
      have ep : ((j : Int) - 1) / 2 = (p : Int) := by unfold pa at hp; omega
      have hj1 : (1 : Int) ≤ (j : Int) := by omega
      have hne : ((p : Int) == (j : Int)) = false := by rw [beq_eq_false_iff_ne]; omega
      have HP := Lib.hid hp
      have HPJ := Lib.hid hpj
      obtain ⟨v1, m1, c1⟩ := HH.out.less m wr j p HST.out (by have := HML.out; have := HJL.out; omega) (by have := HML.out; have := HJL.out; omega)
      simp [go_sem, Made.depth] at m1
      have C1 := Lib.hid c1
      clear c1 hp hpj h0
      cases hb : lt (m.getD j d) (m.getD p d)
      · rw [hb] at C1
        have HDN : Hid (hup lt d (f + 1) m j = m) := Lib.hid (by unfold hup; rw [if_neg (by have := HP.out; have := HPJ.out; omega), ← HP.out, hb]; rfl)
        clear hb
        go_wp2_with fail
        refine C1.out.mono ?_
        rintro e w7 ⟨rfl, hst⟩
        have HST2 := Lib.hid hst
        clear hst C1 HST
        go_wp2_with fail
        go_end0
        exact ⟨rfl, by rw [← HD.out, HDN.out]; exact HST2.out⟩
      · rw [hb] at C1
        obtain ⟨f, rfl⟩ : ∃ f', f = f' + 1 := ⟨f - 1, by have := HJF.out; have := HPJ.out; omega⟩
        have HDN : Hid (hup lt d (f + 1 + 1) m j = hup lt d (f + 1) (swq d m p j) p) := Lib.hid (by
          conv => lhs; unfold hup
          rw [if_neg (by have := HP.out; have := HPJ.out; omega), ← HP.out, hb]; rfl)
        clear hb
        go_wp2_with fail
        refine C1.out.mono ?_
        rintro e w7 ⟨rfl, hst⟩
        obtain ⟨v3, m3, c3⟩ := HH.out.swap m w7 p j hst (by have := HML.out; have := HJL.out; have := HPJ.out; omega) (by have := HML.out; have := HJL.out; omega)
        simp [go_sem, Made.depth] at m3
        have C3 := Lib.hid c3
        clear hst C1 HST c3 m1
        go_wp2_with fail
        refine C3.out.mono ?_
        rintro e w9 ⟨rfl, hst⟩
        have HST3 := Lib.hid hst
        clear hst C3 m3
        go_wp2_with fail
        go_roundw
        case rel => exact ⟨p, f, swq d m p j, rfl, by rw [← HDN.out, HD.out], HST3.out, by rw [swq_len, HML.out], by have := HJF.out; have := HPJ.out; omega, by have := HJL.out; have := HPJ.out; omega⟩
        case measure =>
          have := HPJ.out
          simp only [intOf, Int.toNat_natCast]
          omega
end Go.Proofs.YtalbcimnnihmnaaGreat

/- container/heap's Pop, Push, over any value with methods. Conditions: its methods do to the list that it stands for what they say. -/
namespace Go.Proofs.YtalbcimnnihmnaaGreat
open Go.RowKit
open M
/-- What Pop answers, and leaves. -/
def PoP {α : Type} (lt : α → α → Bool) (d : α) (enc : α → Value) (l : List α) (St : List α → World → Prop) (e : Ending) (w' : World) : Prop := e = .returned (enc ((hdn lt d (l.length - 1) (l.length - 1) (swq d l 0 (l.length - 1)) 0).getD (l.length - 1) d)) ∧ St ((hdn lt d (l.length - 1) (l.length - 1) (swq d l 0 (l.length - 1)) 0).take (l.length - 1)) w'
set_option maxRecDepth 100000 in
theorem pop_any {α : Type} (lt : α → α → Bool) (d : α) (T : TypeId) (rv : Value) (gn gl gs gp : Nat) (enc : α → Value) (St : List α → World → Prop) (H : HM lt d T rv gn gl gs St)
    (ep : ∀ args w, (callFunc gp args).run Tryz.prog w = .ok (.enter gp args) w)
    (HP : ∀ l w, St l w → 0 < l.length → ∃ v, (method (Tryz.prog.types.size + Made.depth) T rv "Pop").run Tryz.prog w = .ok (gp, v) w ∧ Calls Tryz.prog gp #[v] w fun e w' => e = .returned (enc (l.getD (l.length - 1) d)) ∧ St (l.take (l.length - 1)) w')
    (l : List α) (w : World) (hs : St l w) (h0 : 0 < l.length) (hl : l.length ≤ 1000000) :
    Calls Tryz.prog 67 #[.iface T rv] w fun e w' => PoP lt d enc l St e w' := by
  have HH := Lib.hid H
  have HPP := Lib.hid HP
  have eN := H.en
  have eS := H.es
  obtain ⟨v1, m1, c1⟩ := H.len l w hs
  simp [go_sem, Made.depth] at m1
  have C1 := Lib.hid c1
  have hlI : (l.length : Int) ≤ 1000000 := by omega
  obtain ⟨n, hn⟩ : ∃ n, l.length = n + 1 := ⟨l.length - 1, by omega⟩
  have HN := Lib.hid fun _ : Unit => hn
  rw [hn] at C1 hlI
  have en : ((n + 1 : Nat) : Int) - 1 = (n : Int) := by omega
  have hnI : (n : Int) ≤ 1000000 := by omega
  clear H c1 hl hs hn h0 HP
  go_enter Tryz.func67, Tryz.ntmps67
  go_wp2_with fail
  refine C1.out.mono ?_
  rintro e w1 ⟨rfl, hst⟩
  obtain ⟨v2, m2, c2⟩ := HH.out.swap l w1 0 n hst (by rw [HN.out ()]; omega) (by rw [HN.out ()]; omega)
  simp [go_sem, Made.depth] at m2
  have C2 := Lib.hid c2
  clear hst C1 m1 c2
  go_wp2_with fail
  refine C2.out.mono ?_
  rintro e w2 ⟨rfl, hst⟩
  have HD := Lib.hid (down_any lt d T rv gn gl gs St HH.out (swq d l 0 n) 0 n w2 hst (by rw [swq_len, HN.out ()]; omega) (by rw [swq_len, HN.out ()]; omega) (by omega))
  clear hst C2 m2
  go_wp2_with fail
  refine HD.out.mono ?_
  rintro e w3 ⟨b, rfl, hst, _⟩
  have hlen : (hdn lt d n n (swq d l 0 n) 0).length = n + 1 := by rw [hdn_len, swq_len, HN.out ()]
  obtain ⟨v3, m3, c3⟩ := HPP.out _ w3 hst (by rw [hlen]; omega)
  simp [go_sem, Made.depth] at m3
  rw [hlen, Nat.add_sub_cancel] at c3
  have C3 := Lib.hid c3
  clear hst HD hlen c3
  go_wp2_with fail
  refine C3.out.mono ?_
  rintro e w4 ⟨rfl, hst⟩
  have HS := Lib.hid hst
  clear hst C3 m3
  go_wp2_with fail
  go_ret
  unfold PoP
  rw [HN.out (), Nat.add_sub_cancel]
  exact ⟨rfl, HS.out⟩
/-- What Push leaves. -/
def PuP {α : Type} (lt : α → α → Bool) (d : α) (l : List α) (x : α) (St : List α → World → Prop) (e : Ending) (w' : World) : Prop := e = .returned (.tuple #[]) ∧ St (hup lt d (l.length + 1 + 1) (l ++ [x]) l.length) w'
set_option maxRecDepth 100000 in
theorem push_any {α : Type} (lt : α → α → Bool) (d : α) (T : TypeId) (rv X : Value) (gn gl gs gq : Nat) (St : List α → World → Prop) (H : HM lt d T rv gn gl gs St)
    (eq : ∀ args w, (callFunc gq args).run Tryz.prog w = .ok (.enter gq args) w) (l : List α) (x : α) (w : World)
    (HP : ∃ v, (method (Tryz.prog.types.size + Made.depth) T rv "Push").run Tryz.prog w = .ok (gq, v) w ∧ Calls Tryz.prog gq #[v, X] w fun e w' => e = .returned (.tuple #[]) ∧ St (l ++ [x]) w')
    (hl : l.length < 1000000) :
    Calls Tryz.prog 42 #[.iface T rv, X] w fun e w' => PuP lt d l x St e w' := by
  have HH := Lib.hid H
  have eN := H.en
  obtain ⟨v1, m1, c1⟩ := HP
  simp [go_sem, Made.depth] at m1
  have C1 := Lib.hid c1
  have hlI : (l.length : Int) < 1000000 := by omega
  have HLL := Lib.hid hl
  clear H c1 hl
  go_enter Tryz.func42, Tryz.ntmps42
  go_wp2_with fail
  refine C1.out.mono ?_
  rintro e w1 ⟨rfl, hst⟩
  obtain ⟨v2, m2, c2⟩ := HH.out.len _ w1 hst
  simp [go_sem, Made.depth] at m2
  rw [List.length_append, List.length_singleton] at c2
  have C2 := Lib.hid c2
  clear hst C1 m1 c2
  have en : ((l.length + 1 : Nat) : Int) - 1 = (l.length : Int) := by omega
  go_wp2_with fail
  refine C2.out.mono ?_
  rintro e w2 ⟨rfl, hst⟩
  have HU := Lib.hid (up_any lt d T rv gn gl gs St HH.out (l ++ [x]) l.length w2 hst (by simp) (by have := HLL.out; simp; omega))
  clear hst C2 m2
  go_wp2_with fail
  refine HU.out.mono ?_
  rintro e w3 ⟨rfl, hst⟩
  rw [List.length_append, List.length_singleton] at hst
  have HS := Lib.hid hst
  clear hst HU
  go_wp2_with fail
  go_end0
  exact ⟨rfl, HS.out⟩
end Go.Proofs.YtalbcimnnihmnaaGreat

/- pulse's queue: its methods, as container/heap calls them. Conditions: gains up to 32768, coefficients up to 2^22. -/
namespace Go.Proofs.YtalbcimnnihmnaaGreat
open Go.RowKit
open M
theorem wrap_nil {P : Program} (xt : TypeId) (a : Addr) (s m : String) (w : World) : (Builtin.ssaWrapNilChk_ #[xt] xt #[.pointer (some a), strVal s, strVal m]).run P w = .ok (.pointer (some a)) w := rfl
/-- A method that takes a value, called by a pointer. -/
theorem meth_val {P : Program} {T E : TypeId} {name : String} {f : FuncId} (hm : ((P.info? T).bind fun i => i.methods.find? (·.name == name)).map (fun m => (m.path.toList, m.func)) = some ([], some (f, false))) (hT : P.underlying T = some (.pointer E)) (w : World) (a : Addr) (v : Value)
    (hl : (loadVar E a).run P w = .ok v w) (k : Nat) : (method (k + 1) T (.pointer (some a)) name).run P w = .ok (f, v) w := by
  cases hi : P.info? T with
  | none => rw [hi] at hm; simp at hm
  | some i =>
    rw [hi] at hm
    simp only [Option.bind_some] at hm
    cases hf : i.methods.find? (·.name == name) with
    | none => rw [hf] at hm; simp at hm
    | some m =>
      rw [hf] at hm
      simp only [Option.map_some, Option.some.injEq, Prod.mk.injEq] at hm
      obtain ⟨h1, h2⟩ := hm
      have he : m.path = #[] := Array.toList_eq_nil_iff.1 h1
      simp [method, typeInfo, hi, hf, h2, he, follow, receiverAt, run_underlying hT, Place.get, wrap_nil, hl, asAddr]
/-- A method that takes a pointer. -/
theorem meth_ptr {P : Program} {T E : TypeId} {name : String} {f : FuncId} (hm : ((P.info? T).bind fun i => i.methods.find? (·.name == name)).map (fun m => (m.path.toList, m.func)) = some ([], some (f, true))) (hT : P.underlying T = some (.pointer E)) (w : World) (a : Addr) (k : Nat) :
    (method (k + 1) T (.pointer (some a)) name).run P w = .ok (f, .pointer (some a)) w := by
  cases hi : P.info? T with
  | none => rw [hi] at hm; simp at hm
  | some i =>
    rw [hi] at hm
    simp only [Option.bind_some] at hm
    cases hf : i.methods.find? (·.name == name) with
    | none => rw [hf] at hm; simp at hm
    | some m =>
      rw [hf] at hm
      simp only [Option.map_some, Option.some.injEq, Prod.mk.injEq] at hm
      obtain ⟨h1, h2⟩ := hm
      simp [method, typeInfo, hi, hf, h1, h2, follow, receiverAt, run_underlying hT, Place.get]
theorem m_len : ((Tryz.prog.info? 90).bind fun i => i.methods.find? (·.name == "Len")).map (fun m => (m.path.toList, m.func)) = some ([], some (121, false)) := by kernel_rfl
theorem m_less : ((Tryz.prog.info? 90).bind fun i => i.methods.find? (·.name == "Less")).map (fun m => (m.path.toList, m.func)) = some ([], some (122, false)) := by kernel_rfl
theorem m_swap : ((Tryz.prog.info? 90).bind fun i => i.methods.find? (·.name == "Swap")).map (fun m => (m.path.toList, m.func)) = some ([], some (125, false)) := by kernel_rfl
theorem m_pop : ((Tryz.prog.info? 90).bind fun i => i.methods.find? (·.name == "Pop")).map (fun m => (m.path.toList, m.func)) = some ([], some (123, true)) := by kernel_rfl
theorem m_push : ((Tryz.prog.info? 90).bind fun i => i.methods.find? (·.name == "Push")).map (fun m => (m.path.toList, m.func)) = some ([], some (124, true)) := by kernel_rfl
theorem load_slice {w : World} {a : Addr} {v : Value} (hc : w.cell? a = some v) : (loadVar 120 a).run Tryz.prog w = .ok v w := by
  simp [loadVar, hc, go_sem]
/-- The blocks that F names are as they were. -/
structure KF14 (F : Nat → Prop) (w0 w : World) : Prop where
  os : w.os = w0.os
  tape : w.tape = w0.tape
  output : w.output = w0.output
  size : w0.heap.size ≤ w.heap.size
  block : ∀ k, F k → w.heap[k]? = w0.heap[k]?
theorem KF14.refl (F : Nat → Prop) (w : World) : KF14 F w w := ⟨rfl, rfl, rfl, Nat.le_refl _, fun _ _ => rfl⟩
theorem KF14.below {B : Nat} {w0 w : World} (h : KF14 (· < B) w0 w) : Below B w0 w := ⟨h.os, h.tape, h.output, h.size, h.block⟩
theorem KF14.of {B : Nat} {w0 w : World} (h : Below B w0 w) : KF14 (· < B) w0 w := ⟨h.os, h.tape, h.output, h.size, h.block⟩
theorem KF14.more {F : Nat → Prop} {w0 w w' : World} (h : KF14 F w0 w) (hf : ∀ k, F k → k < w.heap.size) (hb : Below w.heap.size w w') : KF14 F w0 w' :=
  ⟨hb.os.trans h.os, hb.tape.trans h.tape, hb.output.trans h.output, Nat.le_trans h.size hb.size, fun k hk => (hb.block k (hf k hk)).trans (h.block k hk)⟩
theorem KF14.only {F : Nat → Prop} {w0 w w' : World} {g : Nat} (h : KF14 F w0 w) (hf : ¬ F g) (hb : Only g w w') : KF14 F w0 w' :=
  ⟨hb.os.trans h.os, hb.tape.trans h.tape, hb.output.trans h.output, Nat.le_trans h.size (Nat.le_of_eq hb.size.symm), fun k hk => (hb.block k (fun e => hf (by rw [← e]; exact hk))).trans (h.block k hk)⟩
theorem KF14.set {F : Nat → Prop} {w0 w : World} {p : Addr} (h : KF14 F w0 w) (hf : ¬ F p.block) (u : Value) : KF14 F w0 (w.setCell p u) := by
  have hs : (w.setCell p u).heap.size = w.heap.size := by simp [World.setCell]
  exact ⟨h.os, h.tape, h.output, by rw [hs]; exact h.size, fun k hk => (Below.heap_setCell w p u k (fun e => hf (by rw [← e]; exact hk))).trans (h.block k hk)⟩
/-- A queue lies behind a pointer, its coefficients in the block g; the blocks that F names stay. -/
structure QS14 (w0 : World) (F : Nat → Prop) (B h g : Nat) (G : Int) (l : List (Nat × Int)) (w : World) : Prop where
  v : ∃ cap, Row w h 120 #[.slice (some ⟨g, 0, none⟩) l.length cap] ∧ w.ownsRow B 93 3 (.slice (some ⟨g, 0, none⟩) l.length cap) l.length (qV G l)
  hb : B ≤ h
  fg : ¬ F g
  fh : ¬ F h
  fl : ∀ k, F k → k < w.heap.size
  be : KF14 F w0 w
  bd : ∀ p ∈ l, -4194304 ≤ p.2 ∧ p.2 ≤ 4194304
  ln : l.length ≤ 1000
theorem own_far14 {w : World} {B h n size : Nat} {e t : TypeId} {v x : Value} {xs : List Value} (hr : Row w h t #[x]) (ho : w.ownsRow B e size v n xs) (hne : e ≠ t) : v.ownBlock ≠ some h := by
  intro he
  rcases ho.2 with ⟨rfl, _⟩ | ⟨g2, cap2, cur2, rfl, _, hr2, _⟩
  · simp [Value.ownBlock] at he
  · simp only [Value.ownBlock, Option.some.injEq] at he
    subst he
    unfold Row at hr
    rw [hr] at hr2
    injection hr2 with hr2
    injection hr2 with _ hr2 _
    exact hne hr2.symm
theorem QS14.below {w0 w w' : World} {F : Nat → Prop} {B h g : Nat} {G : Int} {l : List (Nat × Int)} (H : QS14 w0 F B h g G l w) (hb : Below w.heap.size w w') : QS14 w0 F B h g G l w' := by
  obtain ⟨cap, hr, ho⟩ := H.v
  exact ⟨⟨cap, hr.box hb, own13_stay ho hb⟩, H.hb, H.fg, H.fh, fun k hk => Nat.lt_of_lt_of_le (H.fl k hk) hb.size, H.be.more H.fl hb, H.bd, H.ln⟩
theorem QS14.far {w0 w : World} {F : Nat → Prop} {B h g : Nat} {G : Int} {l : List (Nat × Int)} (H : QS14 w0 F B h g G l w) : g ≠ h ∧ B ≤ g ∧ g < w.heap.size ∧ h < w.heap.size := by
  obtain ⟨cap, hr, ho⟩ := H.v
  have hlt := ho.lt g rfl
  exact ⟨fun e => own_far14 hr ho (by decide) (by rw [← e]; rfl), hlt.1, hlt.2, hr.lt⟩
set_option maxRecDepth 100000 in
theorem QS14.hm {w0 : World} {F : Nat → Prop} {B h g : Nat} {G : Int} (d : Nat × Int) (h0 : 0 ≤ G) (h1 : G ≤ 32768) : HM (lt14 G) d 90 (.pointer (some ⟨h, 0, none⟩)) 121 122 125 (QS14 w0 F B h g G) where
  en := fun args w => by kernel_rfl
  el := fun args w => by kernel_rfl
  es := fun args w => by kernel_rfl
  len := fun l w H => by
    obtain ⟨cap, hr, ho⟩ := H.v
    refine ⟨_, meth_val m_len Tryz.underlying90 w ⟨h, 0, none⟩ _ (load_slice (cell_of_row _ _ 0 _ _ _ hr)) _, ?_⟩
    exact (qlen_any _ l.length cap w).mono fun e w' ⟨he, hw⟩ => ⟨he, by subst hw; exact H⟩
  less := fun l w i j H hi hj => by
    obtain ⟨cap, hr, ho⟩ := H.v
    refine ⟨_, meth_val m_less Tryz.underlying90 w ⟨h, 0, none⟩ _ (load_slice (cell_of_row _ _ 0 _ _ _ hr)) _, ?_⟩
    exact (less_any B g cap l.length G l d i j w h0 h1 H.bd hi hj ho).mono fun e w' ⟨he, hb⟩ => ⟨he, H.below hb⟩
  swap := fun l w i j H hi hj => by
    obtain ⟨cap, hr, ho⟩ := H.v
    refine ⟨_, meth_val m_swap Tryz.underlying90 w ⟨h, 0, none⟩ _ (load_slice (cell_of_row _ _ 0 _ _ _ hr)) _, ?_⟩
    obtain ⟨hne, hBg, _, _⟩ := H.far
    refine (swap_any B g cap l.length G l d i j w hi hj ho).mono fun e w' ⟨he, ho2, hon⟩ => ⟨he, ⟨⟨cap, ?_, by rw [swq_len]; exact ho2⟩, H.hb, H.fg, H.fh, fun k hk => Nat.lt_of_lt_of_eq (H.fl k hk) hon.size.symm, H.be.only H.fg hon, ?_, by rw [swq_len]; exact H.ln⟩⟩
    · rw [swq_len]
      exact (hon.block h (fun e => hne e.symm)).trans hr
    · intro p hp
      exact H.bd p ((swq_perm d l i j hi hj).mem_iff.1 hp)
/-- .. wherever its coefficients lie. -/
theorem HM.some {α β : Type} {lt : α → α → Bool} {d : α} {T : TypeId} {rv : Value} {gn gl gs : Nat} {St : β → List α → World → Prop} (H : ∀ b, HM lt d T rv gn gl gs (St b)) (b0 : β) : HM lt d T rv gn gl gs (fun l w => ∃ b, St b l w) where
  en := (H b0).en
  el := (H b0).el
  es := (H b0).es
  len := fun l w ⟨b, h⟩ => by
    obtain ⟨v, h1, h2⟩ := (H b).len l w h
    exact ⟨v, h1, h2.mono fun e w' ⟨he, hs⟩ => ⟨he, b, hs⟩⟩
  less := fun l w i j ⟨b, h⟩ hi hj => by
    obtain ⟨v, h1, h2⟩ := (H b).less l w i j h hi hj
    exact ⟨v, h1, h2.mono fun e w' ⟨he, hs⟩ => ⟨he, b, hs⟩⟩
  swap := fun l w i j ⟨b, h⟩ hi hj => by
    obtain ⟨v, h1, h2⟩ := (H b).swap l w i j h hi hj
    exact ⟨v, h1, h2.mono fun e w' ⟨he, hs⟩ => ⟨he, b, hs⟩⟩
end Go.Proofs.YtalbcimnnihmnaaGreat

/- pulse's queue: Push and Pop. Conditions: gains up to 32768, coefficients up to 2^22, up to 1000000 coefficients. -/
namespace Go.Proofs.YtalbcimnnihmnaaGreat
open Go.RowKit
open M
theorem coef_parts : ∃ i, Tryz.prog.info? 93 = some i ∧ i.zero = some (.agg #[.int .i64 0, .int .i64 0, .int .i64 0]) ∧ i.size = 3 ∧ i.bytes = 24 := info_parts (by kernel_rfl)
theorem own_far_set14 {w : World} {B n size : Nat} {e : TypeId} {v : Value} {xs : List Value} (h : w.ownsRow B e size v n xs) {p : Addr} (hp : v.ownBlock ≠ some p.block) (u : Value) : (w.setCell p u).ownsRow B e size v n xs := by
  refine ⟨h.1, ?_⟩
  rcases h.2 with h0 | ⟨g, cap, cur, rfl, hb, hr, rest⟩
  · exact Or.inl h0
  · exact Or.inr ⟨g, cap, cur, rfl, hb, (Below.heap_setCell w p u g (fun e => hp (by rw [← e]; rfl))).trans hr, rest⟩
section
variable {P : Program}
/-- A coefficient more. -/
theorem step_append_c3 {ops : Array Oper} {o : Oper} {a : Act} {w : World} {K : Act → World → Prop} {Q : Exit → Act → World → Prop} {D : Prop} (hgd : o.guard = none) (s x : Operand) (S E : TypeId) (hS : P.underlying S = some (.slice E))
    (hE : ∃ i, P.info? E = some i ∧ i.zero = some (.agg #[.int .i64 0, .int .i64 0, .int .i64 0]) ∧ i.size = 3 ∧ i.bytes = 24)
    (ho : o.op = .call { callee := .builtin .append, args := #[s, x], argTypes := #[S, S] })
    (base : Nat) (v : Value) (n : Nat) (G : Int) (l : List (Nat × Int)) (p : Nat × Int) (hs : a.eval s = v) (hown : w.ownsRow base E 3 v n (qV G l)) (g : Nat) (hx : a.eval x = .slice (some ⟨g, 0, none⟩) 1 1)
    (hf : w.heap[g]? = some (.cells #[.int .i64 (p.1 : Int), .int .i64 G, .int .i64 p.2] E (0, 0)))
    (hn : n ≤ 1000000) (hbase : base ≤ w.heap.size)
    (h : ∀ v' w', w'.ownsRow base E 3 v' (n + 1) (qV G (l ++ [p])) → Below base w w' → w.grownBy w' v.ownBlock → K (a.put o.dst v') w') :
    if Region.wanted o (yielded ops a.tmps) = true then Oper.wp P o a w K Q else D := by
  have hw : Region.wanted o (yielded ops a.tmps) = true := by simp [Region.wanted, hgd]
  rw [if_pos hw]
  obtain ⟨i0, hi1, hi2, hi3, hi4⟩ := hE
  refine wp_append_own w s x S ho base E i0 (.agg #[.int .i64 0, .int .i64 0, .int .i64 0]) 3 24 hS hi1 hi2 hi3 hi4 rfl (by decide) v n (qV G l) hs hown ⟨g, 0, none⟩ 1 1 (qV G [p]) hx rfl ?_ (qV_one G [p]) (by unfold maxLen; omega) (by omega) hbase ?_
  · intro j u hu
    rw [show (⟨g, 0, none⟩ : Addr).add j = ⟨g, j, none⟩ by (simp [Addr.add]; exact fun h => h.symm), cell_of_row _ _ _ _ _ _ hf, ← hu]
    simp [qV, cV]
  · intro v' w' hown' hgrow _
    exact h v' w' (by rw [qV_app]; exact hown') ((Below.refl _ _).grown hgrow hbase (fun k hk => own_ge hown k hk)) hgrow
end
theorem as_coef (v : Value) (w : World) : (Instr.typeAssert (.iface 93 v) 20 93 false).run Tryz.prog w = .ok v w := by kernel_rfl
set_option maxRecDepth 100000 in
set_option maxHeartbeats 1000000 in
theorem qpush_any {w0 : World} {B h g : Nat} {G : Int} (a : Nat) (u : Int) (l : List (Nat × Int)) (w : World) (H : QS14 w0 (· < B) B h g G l w) (hu : -4194304 ≤ u ∧ u ≤ 4194304) (hl : l.length < 1000) :
    Calls Tryz.prog 124 #[.pointer (some ⟨h, 0, none⟩), .iface 93 (.agg #[.int .i64 (a : Int), .int .i64 G, .int .i64 u])] w fun e w' => e = .returned (.tuple #[]) ∧ ∃ g, QS14 w0 (· < B) B h g G (l ++ [(a, u)]) w' := by
  obtain ⟨cap, hr, ho⟩ := H.v
  obtain ⟨v, hv⟩ : ∃ v, Value.slice (some ⟨g, 0, none⟩) l.length cap = v := ⟨_, rfl⟩
  rw [hv] at hr ho
  clear hv
  have hfar := own_far14 hr ho (by decide)
  have HO := Lib.hid (show w.drew.ownsRow B 93 3 v l.length (qV G l) from ho)
  have hr : Row w.drew h 120 #[v] := hr
  have HR := Lib.hid hr
  have HH := Lib.hid H
  have HBS : Hid (B ≤ w.drew.heap.size) := Lib.hid (Nat.le_of_lt (Nat.lt_of_le_of_lt H.hb hr.lt))
  have c0 := cell_of_row _ _ 0 _ _ _ hr
  have HN : Hid (l.length ≤ 1000000) := Lib.hid (by omega)
  have HN2 := Lib.hid hl
  have HU := Lib.hid hu
  have HFAR := Lib.hid hfar
  have HC : Hid (∀ w7 : World, w.drew.grownBy w7 v.ownBlock → Row w7 h 120 #[v]) := Lib.hid fun w7 hg => hr.grown hg hr.lt (fun e => hfar e.symm)
  have HKA : Hid (∀ o : Obj, (w.alloc o).drew.cell? ⟨h, 0, none⟩ = some v) := Lib.hid fun o => cell_of_row _ _ 0 _ _ _ (show Row (w.alloc o).drew h 120 #[v] from hr.alloc o)
  have hc0 : w.drew.cell? ⟨h, 0, none⟩ = some v := c0
  clear H hr ho hu hl hfar c0
  have hta := fun w => as_coef (.agg #[.int .i64 (a : Int), .int .i64 G, .int .i64 u]) w
  have hka := HKA.out
  go_enter Tryz.func124, Tryz.ntmps124
  go_region_law ((refine step_append_c3 (by rfl) _ _ 120 93 Tryz.underlying120 coef_parts rfl B _ l.length G l (a, u) rfl (HO.out.alloc _) _ rfl (heap_alloc_new _ _) HN.out (Nat.le_trans HBS.out (by simp)) ?_; intro v7 w7 hown2 hb2 hg2; obtain ⟨g7, cap7, rfl, hg7, _⟩ := own13_form hown2 (Nat.succ_pos _); have hc7 : w7.cell? ⟨h, 0, none⟩ = some v := cell_of_row _ _ 0 _ _ _ (HC.out w7 (gb_trans (World.grownBy_alloc _ _ _) hg2)); have hf7 := Row.free (HC.out w7 (gb_trans (World.grownBy_alloc _ _ _) hg2)) 0))
  all_goals
    have hr7 := HC.out w7 (gb_trans (World.grownBy_alloc _ _ _) hg2)
    have hne := own_far14 hr7 hown2 (by decide)
    go_end0
    have hbe := Below.setCell ((below_drew1 (HH.out.be.below.alloc HBS.out _)).trans hb2) (p := ⟨h, 0, none⟩) HH.out.hb (.slice (some ⟨g7, 0, none⟩) (l.length + 1) cap7)
    refine ⟨rfl, g7, ⟨⟨cap7, ?_, ?_⟩, HH.out.hb, by omega, HH.out.fh, fun k hk => Nat.lt_of_lt_of_le hk ?_, KF14.of hbe, ?_, ?_⟩⟩
    · rw [List.length_append]
      exact hr7.set 0 _
    · rw [List.length_append]
      exact own_far_set14 hown2 (p := ⟨h, 0, none⟩) hne _
    · have h8 := hr7.lt
      have h9 : (w7.setCell ⟨h, 0, none⟩ (.slice (some ⟨g7, 0, none⟩) (l.length + 1) cap7)).heap.size = w7.heap.size := by simp [World.setCell]
      have h10 := HH.out.hb
      rw [h9]; omega
    · intro p hp
      rcases List.mem_append.1 hp with hp | hp
      · exact HH.out.bd p hp
      · rw [List.mem_singleton.1 hp]
        exact HU.out
    · rw [List.length_append]; have := HN2.out; simp only [List.length_singleton]; omega
theorem qV_take (G : Int) : ∀ (l : List (Nat × Int)) (m : Nat), qV G (l.take m) = (qV G l).take (m * 3)
  | [], m => by simp [qV]
  | p :: l, 0 => by simp [qV]
  | p :: l, m + 1 => by
    rw [List.take_succ_cons, qV, qV, qV_take G l m, show (m + 1) * 3 = 3 + m * 3 by omega, show (3 : Nat) = (cV G p).length from rfl, List.take_length_add_append]
theorem own_shrink14 {w : World} {B g cap n m size : Nat} {e : TypeId} {xs : List Value} (h : w.ownsRow B e size (.slice (some ⟨g, 0, none⟩) n cap) n xs) (hm : m ≤ n) : w.ownsRow B e size (.slice (some ⟨g, 0, none⟩) m cap) m (xs.take (m * size)) := by
  have hms : m * size ≤ n * size := Nat.mul_le_mul_right size hm
  refine ⟨by rw [List.length_take, h.1]; omega, ?_⟩
  rcases h.2 with ⟨h1, _⟩ | ⟨g', cap', cur, h1, hbs, hr, hnc, hcm, hsz, htk⟩
  · simp at h1
  · simp only [Value.slice.injEq, Option.some.injEq, Addr.mk.injEq, and_true, true_and] at h1
    obtain ⟨rfl, rfl⟩ := h1
    refine Or.inr ⟨g, cap, cur, rfl, hbs, hr, by omega, hcm, hsz, ?_⟩
    rw [← htk, List.take_take, Nat.min_eq_left hms]
set_option maxRecDepth 100000 in
set_option maxHeartbeats 1000000 in
theorem qpop_any {w0 : World} {F : Nat → Prop} {B h g : Nat} {G : Int} (d : Nat × Int) (l : List (Nat × Int)) (w : World) (H : QS14 w0 F B h g G l w) (h0 : 0 < l.length) :
    Calls Tryz.prog 123 #[.pointer (some ⟨h, 0, none⟩)] w fun e w' => e = .returned (.iface 93 (.agg #[.int .i64 ((l.getD (l.length - 1) d).1 : Int), .int .i64 G, .int .i64 (l.getD (l.length - 1) d).2])) ∧ QS14 w0 F B h g G (l.take (l.length - 1)) w' := by
  have hl := H.ln
  obtain ⟨cap, hr, ho⟩ := H.v
  obtain ⟨hfar, hBg, hgl, -⟩ := H.far
  have HH := Lib.hid H
  have c0 := cell_of_row _ _ 0 _ _ _ hr
  have hc0 : w.cell? ⟨h, 0, none⟩ = some (.slice (some ⟨g, 0, none⟩) l.length cap) := c0
  have HR := Lib.hid hr
  have HO := Lib.hid ho
  obtain ⟨m, hm⟩ : ∃ m, l.length = m + 1 := ⟨l.length - 1, by omega⟩
  obtain ⟨a0, a1, a2⟩ := own_c3 ho d m (by omega)
  have hcap : m + 1 ≤ cap := by
    rcases ho.2 with ⟨h1, _⟩ | ⟨g', cap', cur, h1, hbs, hr, hnc, hcm, hsz, htk⟩
    · simp at h1
    · simp only [Value.slice.injEq, Option.some.injEq, Addr.mk.injEq, and_true, true_and] at h1
      omega
  rw [hm] at hc0 HR HO ⊢
  rw [Nat.add_sub_cancel]
  have HM2 := Lib.hid hm
  obtain ⟨⟨a, u⟩, hp⟩ : ∃ p, l.getD m d = p := ⟨_, rfl⟩
  rw [hp] at a0 a2 ⊢
  simp only at a0 a2 ⊢
  have hmI : ((m + 1 : Nat) : Int) - 1 = (m : Int) := by omega
  have hmB : (m : Int) ≤ 1000000 := by omega
  have hw1 : wrap64 (((m + 1 : Nat) : Int) - 1) = (m : Int) := by rw [hmI]; exact wr_id14 _ (by omega) (by omega)
  have hml : (m : Int) < ((m + 1 : Nat) : Int) := by omega
  have hml2 : m < m + 1 := by omega
  have hcI : (m : Int) ≤ (cap : Int) := by omega
  have hcN : m ≤ cap := by omega
  have HA := Lib.hid fun o : Obj => hr.alloc o
  have HOA := Lib.hid fun o : Obj => ho.alloc o
  have HBA := Lib.hid fun o : Obj => H.be.more H.fl ((Below.refl _ _).alloc (Nat.le_refl _) o)
  have hne1 : w.heap.size ≠ h := fun e => by have := hr.lt; omega
  have hne2 : h ≠ w.heap.size := fun e => by have := hr.lt; omega
  have hca : ∀ o : Obj, (w.alloc o).cell? ⟨h, 0, none⟩ = some (.slice (some ⟨g, 0, none⟩) (m + 1) cap) := fun o => by rw [cell_of_row _ _ 0 _ _ _ (HA.out o), HM2.out]; rfl
  have hfa : ∀ o : Obj, (w.alloc o).frozen? ⟨h, 0, none⟩ = false := fun o => (HA.out o).free 0
  clear H hr ho hl h0 hp c0 hm hcap
  have HFAR : Hid (g ≠ h) := Lib.hid hfar
  clear hfar
  go_enter Tryz.func123, Tryz.ntmps123
  go_wp2_with fail
  go_ret
  refine ⟨rfl, ⟨⟨cap, ?_, ?_⟩, HH.out.hb, HH.out.fg, HH.out.fh, fun k hk => Nat.lt_of_lt_of_le (HH.out.fl k hk) ?_, KF14.set (HBA.out _) (p := ⟨h, 0, none⟩) HH.out.fh _, ?_, ?_⟩⟩
  · have hl : (l.take m).length = m := by rw [List.length_take, HM2.out]; omega
    rw [hl]
    exact (HA.out _).set 0 _
  · have hl : (l.take m).length = m := by rw [List.length_take, HM2.out]; omega
    rw [hl, qV_take]
    refine own_far_set14 (own_shrink14 (n := m + 1) ?_ (by omega)) (p := ⟨h, 0, none⟩) (by simpa [Value.ownBlock] using HFAR.out) _
    rw [← HM2.out]
    exact HOA.out _
  · simp [World.setCell]
  · intro p hp
    exact HH.out.bd p (List.mem_of_mem_take hp)
  · rw [List.length_take]; have := HH.out.ln; omega
end Go.Proofs.YtalbcimnnihmnaaGreat
