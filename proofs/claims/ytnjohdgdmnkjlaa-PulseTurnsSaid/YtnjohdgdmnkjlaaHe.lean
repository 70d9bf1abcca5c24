/-
  container/heap's Pop, Push, over any value with methods. Conditions: its methods do to the list that it stands for what they say.
-/
import Derived.Test.YtnjohdgdmnkjlaaHc
namespace Go.Proofs.Ytnjohdgdmnkjlaa
open Go.RowKit
open M
/-- What Pop answers, and leaves. -/
def PoP {α : Type} (lt : α → α → Bool) (d : α) (enc : α → Value) (l : List α) (St : List α → World → Prop) (e : Ending) (w' : World) : Prop := e = .returned (enc ((hdn lt d (l.length - 1) (l.length - 1) (swq d l 0 (l.length - 1)) 0).getD (l.length - 1) d)) ∧ St ((hdn lt d (l.length - 1) (l.length - 1) (swq d l 0 (l.length - 1)) 0).take (l.length - 1)) w'
set_option maxRecDepth 100000 in
theorem pop_any {α : Type} (lt : α → α → Bool) (d : α) (T : TypeId) (rv : Value) (gn gl gs gp : Nat) (enc : α → Value) (St : List α → World → Prop) (H : HM lt d T rv gn gl gs St)
    (ep : ∀ args w, (callFunc gp args).run Try.prog w = .ok (.enter gp args) w)
    (HP : ∀ l w, St l w → 0 < l.length → ∃ v, (method (Try.prog.types.size + Made.depth) T rv "Pop").run Try.prog w = .ok (gp, v) w ∧ Calls Try.prog gp #[v] w fun e w' => e = .returned (enc (l.getD (l.length - 1) d)) ∧ St (l.take (l.length - 1)) w')
    (l : List α) (w : World) (hs : St l w) (h0 : 0 < l.length) (hl : l.length ≤ 1000000) :
    Calls Try.prog 31 #[.iface T rv] w fun e w' => PoP lt d enc l St e w' := by
  have HH := Lib.hid H
  have HPP := Lib.hid HP
  have eN := H.en
  have eS := H.es
  obtain ⟨v1, m1, c1⟩ := H.len l w hs
  simp [go_sem, Made.depth] at m1
  have C1 := Lib.hid c1
  have hlI : (l.length : Int) ≤ 1000000 := by omega
  obtain ⟨n, hn⟩ : ∃ n, l.length = n + 1 := ⟨l.length - 1, by omega⟩
  have HN := Lib.hid fun _ : Unit => hn
  rw [hn] at C1 hlI
  have en : ((n + 1 : Nat) : Int) - 1 = (n : Int) := by omega
  have hnI : (n : Int) ≤ 1000000 := by omega
  clear H c1 hl hs hn h0 HP
  go_enter Try.func31, Try.ntmps31
  go_wp2_with fail
  refine C1.out.mono ?_
  rintro e w1 ⟨rfl, hst⟩
  obtain ⟨v2, m2, c2⟩ := HH.out.swap l w1 0 n hst (by rw [HN.out ()]; omega) (by rw [HN.out ()]; omega)
  simp [go_sem, Made.depth] at m2
  have C2 := Lib.hid c2
  clear hst C1 m1 c2
  go_wp2_with fail
  refine C2.out.mono ?_
  rintro e w2 ⟨rfl, hst⟩
  have HD := Lib.hid (down_any lt d T rv gn gl gs St HH.out (swq d l 0 n) 0 n w2 hst (by rw [swq_len, HN.out ()]; omega) (by rw [swq_len, HN.out ()]; omega) (by omega))
  clear hst C2 m2
  go_wp2_with fail
  refine HD.out.mono ?_
  rintro e w3 ⟨b, rfl, hst, _⟩
  have hlen : (hdn lt d n n (swq d l 0 n) 0).length = n + 1 := by rw [hdn_len, swq_len, HN.out ()]
  obtain ⟨v3, m3, c3⟩ := HPP.out _ w3 hst (by rw [hlen]; omega)
  simp [go_sem, Made.depth] at m3
  rw [hlen, Nat.add_sub_cancel] at c3
  have C3 := Lib.hid c3
  clear hst HD hlen c3
  go_wp2_with fail
  refine C3.out.mono ?_
  rintro e w4 ⟨rfl, hst⟩
  have HS := Lib.hid hst
  clear hst C3 m3
  go_wp2_with fail
  go_ret
  unfold PoP
  rw [HN.out (), Nat.add_sub_cancel]
  exact ⟨rfl, HS.out⟩
/-- What Push leaves. -/
def PuP {α : Type} (lt : α → α → Bool) (d : α) (l : List α) (x : α) (St : List α → World → Prop) (e : Ending) (w' : World) : Prop := e = .returned (.tuple #[]) ∧ St (hup lt d (l.length + 1 + 1) (l ++ [x]) l.length) w'
set_option maxRecDepth 100000 in
theorem push_any {α : Type} (lt : α → α → Bool) (d : α) (T : TypeId) (rv X : Value) (gn gl gs gq : Nat) (St : List α → World → Prop) (H : HM lt d T rv gn gl gs St)
    (eq : ∀ args w, (callFunc gq args).run Try.prog w = .ok (.enter gq args) w) (l : List α) (x : α) (w : World)
    (HP : ∃ v, (method (Try.prog.types.size + Made.depth) T rv "Push").run Try.prog w = .ok (gq, v) w ∧ Calls Try.prog gq #[v, X] w fun e w' => e = .returned (.tuple #[]) ∧ St (l ++ [x]) w')
    (hl : l.length < 1000000) :
    Calls Try.prog 23 #[.iface T rv, X] w fun e w' => PuP lt d l x St e w' := by
  have HH := Lib.hid H
  have eN := H.en
  obtain ⟨v1, m1, c1⟩ := HP
  simp [go_sem, Made.depth] at m1
  have C1 := Lib.hid c1
  have hlI : (l.length : Int) < 1000000 := by omega
  have HLL := Lib.hid hl
  clear H c1 hl
  go_enter Try.func23, Try.ntmps23
  go_wp2_with fail
  refine C1.out.mono ?_
  rintro e w1 ⟨rfl, hst⟩
  obtain ⟨v2, m2, c2⟩ := HH.out.len _ w1 hst
  simp [go_sem, Made.depth] at m2
  rw [List.length_append, List.length_singleton] at c2
  have C2 := Lib.hid c2
  clear hst C1 m1 c2
  have en : ((l.length + 1 : Nat) : Int) - 1 = (l.length : Int) := by omega
  go_wp2_with fail
  refine C2.out.mono ?_
  rintro e w2 ⟨rfl, hst⟩
  have HU := Lib.hid (up_any lt d T rv gn gl gs St HH.out (l ++ [x]) l.length w2 hst (by simp) (by have := HLL.out; simp; omega))
  clear hst C2 m2
  go_wp2_with fail
  refine HU.out.mono ?_
  rintro e w3 ⟨rfl, hst⟩
  rw [List.length_append, List.length_singleton] at hst
  have HS := Lib.hid hst
  clear hst HU
  go_wp2_with fail
  go_end0
  exact ⟨rfl, HS.out⟩
end Go.Proofs.Ytnjohdgdmnkjlaa
