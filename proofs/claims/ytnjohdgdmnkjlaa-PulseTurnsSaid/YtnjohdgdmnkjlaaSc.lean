/-
  pulse's queue: its methods, as container/heap calls them. Conditions: gains up to 32768, coefficients up to 2^22.
-/
import Derived.Test.YtnjohdgdmnkjlaaSb
import Derived.Test.YtnjohdgdmnkjlaaHe
import Derived.Laws.AppendOwn
import Derived.Laws.OwnMore
namespace Go.Proofs.Ytnjohdgdmnkjlaa
open Go.RowKit
open M
theorem wrap_nil {P : Program} (xt : TypeId) (a : Addr) (s m : String) (w : World) : (Builtin.ssaWrapNilChk_ #[xt] xt #[.pointer (some a), strVal s, strVal m]).run P w = .ok (.pointer (some a)) w := rfl
/-- A method that takes a value, called by a pointer. -/
theorem meth_val {P : Program} {T E : TypeId} {name : String} {f : FuncId} (hm : ((P.info? T).bind fun i => i.methods.find? (·.name == name)).map (fun m => (m.path.toList, m.func)) = some ([], some (f, false))) (hT : P.underlying T = some (.pointer E)) (w : World) (a : Addr) (v : Value)
    (hl : (loadVar E a).run P w = .ok v w) (k : Nat) : (method (k + 1) T (.pointer (some a)) name).run P w = .ok (f, v) w := by
  cases hi : P.info? T with
  | none => rw [hi] at hm; simp at hm
  | some i =>
    rw [hi] at hm
    simp only [Option.bind_some] at hm
    cases hf : i.methods.find? (·.name == name) with
    | none => rw [hf] at hm; simp at hm
    | some m =>
      rw [hf] at hm
      simp only [Option.map_some, Option.some.injEq, Prod.mk.injEq] at hm
      obtain ⟨h1, h2⟩ := hm
      have he : m.path = #[] := Array.toList_eq_nil_iff.1 h1
      simp [method, typeInfo, hi, hf, h2, he, follow, receiverAt, run_underlying hT, Place.get, wrap_nil, hl, asAddr]
/-- A method that takes a pointer. -/
theorem meth_ptr {P : Program} {T E : TypeId} {name : String} {f : FuncId} (hm : ((P.info? T).bind fun i => i.methods.find? (·.name == name)).map (fun m => (m.path.toList, m.func)) = some ([], some (f, true))) (hT : P.underlying T = some (.pointer E)) (w : World) (a : Addr) (k : Nat) :
    (method (k + 1) T (.pointer (some a)) name).run P w = .ok (f, .pointer (some a)) w := by
  cases hi : P.info? T with
  | none => rw [hi] at hm; simp at hm
  | some i =>
    rw [hi] at hm
    simp only [Option.bind_some] at hm
    cases hf : i.methods.find? (·.name == name) with
    | none => rw [hf] at hm; simp at hm
    | some m =>
      rw [hf] at hm
      simp only [Option.map_some, Option.some.injEq, Prod.mk.injEq] at hm
      obtain ⟨h1, h2⟩ := hm
      simp [method, typeInfo, hi, hf, h1, h2, follow, receiverAt, run_underlying hT, Place.get]
theorem m_len : ((Try.prog.info? 45).bind fun i => i.methods.find? (·.name == "Len")).map (fun m => (m.path.toList, m.func)) = some ([], some (51, false)) := by kernel_rfl
theorem m_less : ((Try.prog.info? 45).bind fun i => i.methods.find? (·.name == "Less")).map (fun m => (m.path.toList, m.func)) = some ([], some (52, false)) := by kernel_rfl
theorem m_swap : ((Try.prog.info? 45).bind fun i => i.methods.find? (·.name == "Swap")).map (fun m => (m.path.toList, m.func)) = some ([], some (55, false)) := by kernel_rfl
theorem m_pop : ((Try.prog.info? 45).bind fun i => i.methods.find? (·.name == "Pop")).map (fun m => (m.path.toList, m.func)) = some ([], some (53, true)) := by kernel_rfl
theorem m_push : ((Try.prog.info? 45).bind fun i => i.methods.find? (·.name == "Push")).map (fun m => (m.path.toList, m.func)) = some ([], some (54, true)) := by kernel_rfl
theorem load_slice {w : World} {a : Addr} {v : Value} (hc : w.cell? a = some v) : (loadVar 61 a).run Try.prog w = .ok v w := by
  simp [loadVar, hc, go_sem]
/-- The blocks that F names are as they were. -/
structure KF (F : Nat → Prop) (w0 w : World) : Prop where
  os : w.os = w0.os
  tape : w.tape = w0.tape
  output : w.output = w0.output
  size : w0.heap.size ≤ w.heap.size
  block : ∀ k, F k → w.heap[k]? = w0.heap[k]?
theorem KF.refl (F : Nat → Prop) (w : World) : KF F w w := ⟨rfl, rfl, rfl, Nat.le_refl _, fun _ _ => rfl⟩
theorem KF.below {B : Nat} {w0 w : World} (h : KF (· < B) w0 w) : Below B w0 w := ⟨h.os, h.tape, h.output, h.size, h.block⟩
theorem KF.of {B : Nat} {w0 w : World} (h : Below B w0 w) : KF (· < B) w0 w := ⟨h.os, h.tape, h.output, h.size, h.block⟩
theorem KF.more {F : Nat → Prop} {w0 w w' : World} (h : KF F w0 w) (hf : ∀ k, F k → k < w.heap.size) (hb : Below w.heap.size w w') : KF F w0 w' :=
  ⟨hb.os.trans h.os, hb.tape.trans h.tape, hb.output.trans h.output, Nat.le_trans h.size hb.size, fun k hk => (hb.block k (hf k hk)).trans (h.block k hk)⟩
theorem KF.only {F : Nat → Prop} {w0 w w' : World} {g : Nat} (h : KF F w0 w) (hf : ¬ F g) (hb : Only g w w') : KF F w0 w' :=
  ⟨hb.os.trans h.os, hb.tape.trans h.tape, hb.output.trans h.output, Nat.le_trans h.size (Nat.le_of_eq hb.size.symm), fun k hk => (hb.block k (fun e => hf (by rw [← e]; exact hk))).trans (h.block k hk)⟩
theorem KF.set {F : Nat → Prop} {w0 w : World} {p : Addr} (h : KF F w0 w) (hf : ¬ F p.block) (u : Value) : KF F w0 (w.setCell p u) := by
  have hs : (w.setCell p u).heap.size = w.heap.size := by simp [World.setCell]
  exact ⟨h.os, h.tape, h.output, by rw [hs]; exact h.size, fun k hk => (Below.heap_setCell w p u k (fun e => hf (by rw [← e]; exact hk))).trans (h.block k hk)⟩
/-- A queue lies behind a pointer, its coefficients in the block g; the blocks that F names stay. -/
structure QS (w0 : World) (F : Nat → Prop) (B h g : Nat) (G : Int) (l : List (Nat × Int)) (w : World) : Prop where
  v : ∃ cap, Row w h 61 #[.slice (some ⟨g, 0, none⟩) l.length cap] ∧ w.ownsRow B 49 3 (.slice (some ⟨g, 0, none⟩) l.length cap) l.length (qV G l)
  hb : B ≤ h
  fg : ¬ F g
  fh : ¬ F h
  fl : ∀ k, F k → k < w.heap.size
  be : KF F w0 w
  bd : ∀ p ∈ l, -4194304 ≤ p.2 ∧ p.2 ≤ 4194304
  ln : l.length ≤ 1000
theorem own_far14 {w : World} {B h n size : Nat} {e t : TypeId} {v x : Value} {xs : List Value} (hr : Row w h t #[x]) (ho : w.ownsRow B e size v n xs) (hne : e ≠ t) : v.ownBlock ≠ some h := by
  intro he
  rcases ho.2 with ⟨rfl, _⟩ | ⟨g2, cap2, cur2, rfl, _, hr2, _⟩
  · simp [Value.ownBlock] at he
  · simp only [Value.ownBlock, Option.some.injEq] at he
    subst he
    unfold Row at hr
    rw [hr] at hr2
    injection hr2 with hr2
    injection hr2 with _ hr2 _
    exact hne hr2.symm
theorem QS.below {w0 w w' : World} {F : Nat → Prop} {B h g : Nat} {G : Int} {l : List (Nat × Int)} (H : QS w0 F B h g G l w) (hb : Below w.heap.size w w') : QS w0 F B h g G l w' := by
  obtain ⟨cap, hr, ho⟩ := H.v
  exact ⟨⟨cap, hr.box hb, own13_stay ho hb⟩, H.hb, H.fg, H.fh, fun k hk => Nat.lt_of_lt_of_le (H.fl k hk) hb.size, H.be.more H.fl hb, H.bd, H.ln⟩
theorem QS.far {w0 w : World} {F : Nat → Prop} {B h g : Nat} {G : Int} {l : List (Nat × Int)} (H : QS w0 F B h g G l w) : g ≠ h ∧ B ≤ g ∧ g < w.heap.size ∧ h < w.heap.size := by
  obtain ⟨cap, hr, ho⟩ := H.v
  have hlt := ho.lt g rfl
  exact ⟨fun e => own_far14 hr ho (by decide) (by rw [← e]; rfl), hlt.1, hlt.2, hr.lt⟩
theorem QS.hm {w0 : World} {F : Nat → Prop} {B h g : Nat} {G : Int} (d : Nat × Int) (h0 : 0 ≤ G) (h1 : G ≤ 32768) : HM (lt14 G) d 45 (.pointer (some ⟨h, 0, none⟩)) 51 52 55 (QS w0 F B h g G) where
  en := fun args w => by kernel_rfl
  el := fun args w => by kernel_rfl
  es := fun args w => by kernel_rfl
  len := fun l w H => by
    obtain ⟨cap, hr, ho⟩ := H.v
    refine ⟨_, meth_val m_len Try.underlying45 w ⟨h, 0, none⟩ _ (load_slice (cell_of_row _ _ 0 _ _ _ hr)) _, ?_⟩
    exact (qlen_any _ l.length cap w).mono fun e w' ⟨he, hw⟩ => ⟨he, by subst hw; exact H⟩
  less := fun l w i j H hi hj => by
    obtain ⟨cap, hr, ho⟩ := H.v
    refine ⟨_, meth_val m_less Try.underlying45 w ⟨h, 0, none⟩ _ (load_slice (cell_of_row _ _ 0 _ _ _ hr)) _, ?_⟩
    exact (less_any B g cap l.length G l d i j w h0 h1 H.bd hi hj ho).mono fun e w' ⟨he, hb⟩ => ⟨he, H.below hb⟩
  swap := fun l w i j H hi hj => by
    obtain ⟨cap, hr, ho⟩ := H.v
    refine ⟨_, meth_val m_swap Try.underlying45 w ⟨h, 0, none⟩ _ (load_slice (cell_of_row _ _ 0 _ _ _ hr)) _, ?_⟩
    obtain ⟨hne, hBg, _, _⟩ := H.far
    refine (swap_any B g cap l.length G l d i j w hi hj ho).mono fun e w' ⟨he, ho2, hon⟩ => ⟨he, ⟨⟨cap, ?_, by rw [swq_len]; exact ho2⟩, H.hb, H.fg, H.fh, fun k hk => Nat.lt_of_lt_of_eq (H.fl k hk) hon.size.symm, H.be.only H.fg hon, ?_, by rw [swq_len]; exact H.ln⟩⟩
    · rw [swq_len]
      exact (hon.block h (fun e => hne e.symm)).trans hr
    · intro p hp
      exact H.bd p ((swq_perm d l i j hi hj).mem_iff.1 hp)
/-- .. wherever its coefficients lie. -/
theorem HM.some {α β : Type} {lt : α → α → Bool} {d : α} {T : TypeId} {rv : Value} {gn gl gs : Nat} {St : β → List α → World → Prop} (H : ∀ b, HM lt d T rv gn gl gs (St b)) (b0 : β) : HM lt d T rv gn gl gs (fun l w => ∃ b, St b l w) where
  en := (H b0).en
  el := (H b0).el
  es := (H b0).es
  len := fun l w ⟨b, h⟩ => by
    obtain ⟨v, h1, h2⟩ := (H b).len l w h
    exact ⟨v, h1, h2.mono fun e w' ⟨he, hs⟩ => ⟨he, b, hs⟩⟩
  less := fun l w i j ⟨b, h⟩ hi hj => by
    obtain ⟨v, h1, h2⟩ := (H b).less l w i j h hi hj
    exact ⟨v, h1, h2.mono fun e w' ⟨he, hs⟩ => ⟨he, b, hs⟩⟩
  swap := fun l w i j ⟨b, h⟩ hi hj => by
    obtain ⟨v, h1, h2⟩ := (H b).swap l w i j h hi hj
    exact ⟨v, h1, h2.mono fun e w' ⟨he, hs⟩ => ⟨he, b, hs⟩⟩
end Go.Proofs.Ytnjohdgdmnkjlaa
