/-
  Contracts and plain facts that the laws share; each piece is headed by what it holds and its conditions.
-/
import Derived.Test.YtkjbobgmnpifoaaQBh
import Derived.Test.YtkjbobgmnpifoaaQM1
import Derived.Deep.Cut

/- container/heap's down, up, Init, over any value with methods: what they do to the list that it stands for. Conditions: its methods Len, Less and Swap do to the list what they say. -/
namespace Go.Proofs.Ytkjbobgmnpifoaa
open Go.RowKit
open M
/-- What is asked of a value's methods: Less and Swap, of a list that lies in a world. -/
structure HM {α : Type} (lt : α → α → Bool) (d : α) (T : TypeId) (rv : Value) (gn gl gs : Nat) (St : List α → World → Prop) : Prop where
  en : ∀ args w, (callFunc gn args).run Try.prog w = .ok (.enter gn args) w
  el : ∀ args w, (callFunc gl args).run Try.prog w = .ok (.enter gl args) w
  es : ∀ args w, (callFunc gs args).run Try.prog w = .ok (.enter gs args) w
  len : ∀ l w, St l w → ∃ v, (method (Try.prog.types.size + Made.depth) T rv "Len").run Try.prog w = .ok (gn, v) w ∧ Calls Try.prog gn #[v] w fun e w' => e = .returned (.int .i64 (l.length : Int)) ∧ St l w'
  less : ∀ l w i j, St l w → i < l.length → j < l.length → ∃ v, (method (Try.prog.types.size + Made.depth) T rv "Less").run Try.prog w = .ok (gl, v) w ∧ Calls Try.prog gl #[v, .int .i64 (i : Int), .int .i64 (j : Int)] w fun e w' => e = .returned (.bool (lt (l.getD i d) (l.getD j d))) ∧ St l w'
  swap : ∀ l w i j, St l w → i < l.length → j < l.length → ∃ v, (method (Try.prog.types.size + Made.depth) T rv "Swap").run Try.prog w = .ok (gs, v) w ∧ Calls Try.prog gs #[v, .int .i64 (i : Int), .int .i64 (j : Int)] w fun e w' => e = .returned (.tuple #[]) ∧ St (swq d l i j) w'
/-- What down leaves: the list sifted down; false, if that is as it was. -/
def DnP {α : Type} (lt : α → α → Bool) (d : α) (n : Nat) (l : List α) (i : Nat) (St : List α → World → Prop) (e : Ending) (w' : World) : Prop :=
  ∃ b, e = .returned (.bool b) ∧ St (hdn lt d n n l i) w' ∧ (b = false → hdn lt d n n l i = l)
set_option maxRecDepth 100000 in
set_option maxHeartbeats 1000000 in
theorem down_any {α : Type} (lt : α → α → Bool) (d : α) (T : TypeId) (rv : Value) (gn gl gs : Nat) (St : List α → World → Prop) (H : HM lt d T rv gn gl gs St) (l : List α) (i n : Nat) (w : World) (hs : St l w) (hn : n ≤ l.length) (hl : l.length ≤ 1000000) (hi : i ≤ 1000000) :
    Calls Try.prog 35 #[.iface T rv, .int .i64 (i : Int), .int .i64 (n : Int)] w fun e w' => DnP lt d n l i St e w' := by
  have HS := Lib.hid hs
  have HH := Lib.hid H
  have eL := H.el
  have eS := H.es
  have hlI : (l.length : Int) ≤ 1000000 := by omega
  have hnI : (n : Int) ≤ 1000000 := by omega
  have hiI : (i : Int) ≤ 1000000 := by omega
  have HLN := Lib.hid hn
  clear hs H hn hl hi
  go_enter Try.func35, Try.ntmps35
  go_wp2
  go_loopw [7] (fun jj wr => ∃ (j f : Nat) (m : List α), jj = .int .i64 j ∧ hdn lt d n f m j = hdn lt d n n l i ∧ St m wr ∧ m.length = l.length ∧ n ≤ j + f ∧ i ≤ j ∧ j ≤ 1000000 ∧ (j = i → m = l)) (fun jj _ => n - (intOf jj).toNat)
  case atStart => exact ⟨i, n, l, rfl, rfl, HS.out, rfl, by omega, Nat.le_refl _, by omega, fun _ => rfl⟩
  case round =>
    clear HS
    obtain ⟨j, f, m, rfl, hd, hst, hml, hnf, hij, hjb, hji⟩ := hrel
    have hjI : (j : Int) ≤ 1000000 := by omega
    have HD := Lib.hid hd
    have HST := Lib.hid hst
    have HML := Lib.hid hml
    have HNF := Lib.hid hnf
    have HIJ := Lib.hid hij
    have HJI := Lib.hid hji
    clear hd hst hml hnf hij hji hjb
    rcases Nat.lt_or_ge (2 * j + 1) n with hlt | hge
    · obtain ⟨f, rfl⟩ : ∃ f', f = f' + 1 := ⟨f - 1, by have := HNF.out; omega⟩
      obtain ⟨j1, hj1⟩ : ∃ j1, j1 = 2 * j + 1 := ⟨_, rfl⟩
      obtain ⟨j2, hj2⟩ : ∃ j2, j2 = 2 * j + 2 := ⟨_, rfl⟩
      have e1 : 2 * (j : Int) + 1 = (j1 : Int) := by omega
      have e2 : (j1 : Int) + 1 = (j2 : Int) := by omega
      have hltI : (j1 : Int) < (n : Int) := by omega
      have HJ1 := Lib.hid hj1
      have HJ2 := Lib.hid hj2
      have HLCH : Hid (lch lt d m j n = if j2 < n ∧ lt (m.getD j2 d) (m.getD j1 d) = true then j2 else j1) := Lib.hid (by rw [hj1, hj2]; rfl)
      have HB : Hid (2 * j + 1 < n) := Lib.hid hlt
      by_cases h2 : j2 < n
      · have h2I : (j2 : Int) < (n : Int) := by omega
        obtain ⟨v1, m1, c1⟩ := HH.out.less m wr j2 j1 HST.out (by have := HML.out; have := HLN.out; omega) (by have := HML.out; have := HLN.out; omega)
        simp [go_sem, Made.depth] at m1
        have C1 := Lib.hid c1
        clear c1 hj1 hj2 hlt
        cases hc : lt (m.getD j2 d) (m.getD j1 d)
        · rw [hc] at C1
          have HLC := Lib.hid (show lch lt d m j n = j1 by rw [HLCH.out, hc]; exact if_neg (by simp))
          clear hc h2
          go_wp2_with fail
          refine C1.out.mono ?_
          rintro e w7 ⟨rfl, hst⟩
          have HST2 := Lib.hid hst
          have HC : Hid (2 * j + 1 < n ∧ j < j1 ∧ j1 < n) := Lib.hid (by have := HB.out; have := HJ1.out; omega)
          clear hst C1 m1 HLCH HST HJ1 HJ2 HB
          obtain ⟨v2, m2, c2⟩ := HH.out.less m w7 j1 j HST2.out (by have := HML.out; have := HLN.out; have := HC.out; omega) (by have := HML.out; have := HLN.out; have := HC.out; omega)
          simp [go_sem, Made.depth] at m2
          have C2 := Lib.hid c2
          clear c2
          cases hb : lt (m.getD j1 d) (m.getD j d)
          · rw [hb] at C2
            have HDN : Hid (hdn lt d n (f + 1) m j = m) := Lib.hid (by unfold hdn; rw [if_neg (by have := HC.out; omega), HLC.out, hb]; rfl)
            clear hb
            go_wp2_with fail
            refine C2.out.mono ?_
            rintro e w8 ⟨rfl, hst⟩
            have HST3 := Lib.hid hst
            clear hst C2
            go_wp2_with fail
            go_ret
            exact ⟨decide (i < j), by (first | rfl | (congr 2; simp)), by rw [← HD.out, HDN.out]; exact HST3.out, fun h => by
              have h1 := of_decide_eq_false h
              rw [← HD.out, HDN.out]
              exact HJI.out (by have := HIJ.out; omega)⟩
          · rw [hb] at C2
            have HDN : Hid (hdn lt d n (f + 1) m j = hdn lt d n f (swq d m j j1) j1) := Lib.hid (by
              conv => lhs; unfold hdn
              rw [if_neg (by have := HC.out; omega), HLC.out, hb]; rfl)
            clear hb
            go_wp2_with fail
            refine C2.out.mono ?_
            rintro e w8 ⟨rfl, hst⟩
            obtain ⟨v3, m3, c3⟩ := HH.out.swap m w8 j j1 hst (by have := HML.out; have := HLN.out; have := HC.out; omega) (by have := HML.out; have := HLN.out; have := HC.out; omega)
            simp [go_sem, Made.depth] at m3
            have C3 := Lib.hid c3
            clear c3 hst C2 m2
            go_wp2_with fail
            refine C3.out.mono ?_
            rintro e w9 ⟨rfl, hst⟩
            have HST3 := Lib.hid hst
            clear hst C3 m3
            go_wp2_with fail
            go_roundw
            case rel => exact ⟨j1, f, swq d m j j1, rfl, by rw [← HDN.out, HD.out], HST3.out, by rw [swq_len, HML.out], by have := HNF.out; have := HC.out; omega, by have := HIJ.out; have := HC.out; omega, by have := HC.out; have := HLN.out; omega, fun h => by have := HIJ.out; have := HC.out; omega⟩
            case measure =>
              have := HC.out
              simp only [intOf, Int.toNat_natCast]
              omega
        · rw [hc] at C1
          have HLC := Lib.hid (show lch lt d m j n = j2 by rw [HLCH.out, hc]; exact if_pos ⟨h2, rfl⟩)
          clear hc
          go_wp2_with fail
          refine C1.out.mono ?_
          rintro e w7 ⟨rfl, hst⟩
          have HST2 := Lib.hid hst
          have HC : Hid (2 * j + 1 < n ∧ j < j2 ∧ j2 < n) := Lib.hid (by have := HB.out; have := HJ2.out; omega)
          clear hst C1 m1 HLCH HST HJ1 HJ2 HB h2
          obtain ⟨v2, m2, c2⟩ := HH.out.less m w7 j2 j HST2.out (by have := HML.out; have := HLN.out; have := HC.out; omega) (by have := HML.out; have := HLN.out; have := HC.out; omega)
          simp [go_sem, Made.depth] at m2
          have C2 := Lib.hid c2
          clear c2
          cases hb : lt (m.getD j2 d) (m.getD j d)
          · rw [hb] at C2
            have HDN : Hid (hdn lt d n (f + 1) m j = m) := Lib.hid (by unfold hdn; rw [if_neg (by have := HC.out; omega), HLC.out, hb]; rfl)
            clear hb
            go_wp2_with fail
            refine C2.out.mono ?_
            rintro e w8 ⟨rfl, hst⟩
            have HST3 := Lib.hid hst
            clear hst C2
            go_wp2_with fail
            go_ret
            exact ⟨decide (i < j), by (first | rfl | (congr 2; simp)), by rw [← HD.out, HDN.out]; exact HST3.out, fun h => by
              have h1 := of_decide_eq_false h
              rw [← HD.out, HDN.out]
              exact HJI.out (by have := HIJ.out; omega)⟩
          · rw [hb] at C2
            have HDN : Hid (hdn lt d n (f + 1) m j = hdn lt d n f (swq d m j j2) j2) := Lib.hid (by
              conv => lhs; unfold hdn
              rw [if_neg (by have := HC.out; omega), HLC.out, hb]; rfl)
            clear hb
            go_wp2_with fail
            refine C2.out.mono ?_
            rintro e w8 ⟨rfl, hst⟩
            obtain ⟨v3, m3, c3⟩ := HH.out.swap m w8 j j2 hst (by have := HML.out; have := HLN.out; have := HC.out; omega) (by have := HML.out; have := HLN.out; have := HC.out; omega)
            simp [go_sem, Made.depth] at m3
            have C3 := Lib.hid c3
            clear c3 hst C2 m2
            go_wp2_with fail
            refine C3.out.mono ?_
            rintro e w9 ⟨rfl, hst⟩
            have HST3 := Lib.hid hst
            clear hst C3 m3
            go_wp2_with fail
            go_roundw
            case rel => exact ⟨j2, f, swq d m j j2, rfl, by rw [← HDN.out, HD.out], HST3.out, by rw [swq_len, HML.out], by have := HNF.out; have := HC.out; omega, by have := HIJ.out; have := HC.out; omega, by have := HC.out; have := HLN.out; omega, fun h => by have := HIJ.out; have := HC.out; omega⟩
            case measure =>
              have := HC.out
              simp only [intOf, Int.toNat_natCast]
              omega
      · have HLC := Lib.hid (show lch lt d m j n = j1 by rw [HLCH.out]; exact if_neg (fun h => h2 h.1))
        have h2I : ¬ (j2 : Int) < (n : Int) := by omega
        have HC : Hid (2 * j + 1 < n ∧ j < j1 ∧ j1 < n) := Lib.hid (by omega)
        have HST2 := HST
        clear hj1 hj2 hlt HLCH HST HJ1 HJ2 HB h2
        obtain ⟨v2, m2, c2⟩ := HH.out.less m wr j1 j HST2.out (by have := HML.out; have := HLN.out; have := HC.out; omega) (by have := HML.out; have := HLN.out; have := HC.out; omega)
        simp [go_sem, Made.depth] at m2
        have C2 := Lib.hid c2
        clear c2
        cases hb : lt (m.getD j1 d) (m.getD j d)
        · rw [hb] at C2
          have HDN : Hid (hdn lt d n (f + 1) m j = m) := Lib.hid (by unfold hdn; rw [if_neg (by have := HC.out; omega), HLC.out, hb]; rfl)
          clear hb
          go_wp2_with fail
          refine C2.out.mono ?_
          rintro e w8 ⟨rfl, hst⟩
          have HST3 := Lib.hid hst
          clear hst C2
          go_wp2_with fail
          go_ret
          exact ⟨decide (i < j), by (first | rfl | (congr 2; simp)), by rw [← HD.out, HDN.out]; exact HST3.out, fun h => by
            have h1 := of_decide_eq_false h
            rw [← HD.out, HDN.out]
            exact HJI.out (by have := HIJ.out; omega)⟩
        · rw [hb] at C2
          have HDN : Hid (hdn lt d n (f + 1) m j = hdn lt d n f (swq d m j j1) j1) := Lib.hid (by
            conv => lhs; unfold hdn
            rw [if_neg (by have := HC.out; omega), HLC.out, hb]; rfl)
          clear hb
          go_wp2_with fail
          refine C2.out.mono ?_
          rintro e w8 ⟨rfl, hst⟩
          obtain ⟨v3, m3, c3⟩ := HH.out.swap m w8 j j1 hst (by have := HML.out; have := HLN.out; have := HC.out; omega) (by have := HML.out; have := HLN.out; have := HC.out; omega)
          simp [go_sem, Made.depth] at m3
          have C3 := Lib.hid c3
          clear c3 hst C2 m2
          go_wp2_with fail
          refine C3.out.mono ?_
          rintro e w9 ⟨rfl, hst⟩
          have HST3 := Lib.hid hst
          clear hst C3 m3
          go_wp2_with fail
          go_roundw
          case rel => exact ⟨j1, f, swq d m j j1, rfl, by rw [← HDN.out, HD.out], HST3.out, by rw [swq_len, HML.out], by have := HNF.out; have := HC.out; omega, by have := HIJ.out; have := HC.out; omega, by have := HC.out; have := HLN.out; omega, fun h => by have := HIJ.out; have := HC.out; omega⟩
          case measure =>
            have := HC.out
            simp only [intOf, Int.toNat_natCast]
            omega
    · have hgeI : ¬ 2 * (j : Int) + 1 < (n : Int) := by omega
      have HDN : Hid (hdn lt d n f m j = m) := Lib.hid (by
        cases f with
        | zero => rfl
        | succ f => unfold hdn; rw [if_pos hge])
      clear hge
      go_wp2_with fail
      go_ret
      exact ⟨decide (i < j), by (first | rfl | (congr 2; simp)), by rw [← HD.out, HDN.out]; exact HST.out, fun h => by
        have h1 := of_decide_eq_false h
        rw [← HD.out, HDN.out]
        exact HJI.out (by have := HIJ.out; omega)⟩
end Go.Proofs.Ytkjbobgmnpifoaa

/- container/heap's up, over any value with methods. Conditions: its methods do to the list that it stands for what they say. -/
namespace Go.Proofs.Ytkjbobgmnpifoaa
open Go.RowKit
open M
def UpP {α : Type} (lt : α → α → Bool) (d : α) (l : List α) (j : Nat) (St : List α → World → Prop) (e : Ending) (w' : World) : Prop := e = .returned (.tuple #[]) ∧ St (hup lt d (l.length + 1) l j) w'
set_option maxRecDepth 100000 in
set_option maxHeartbeats 1000000 in
theorem up_any {α : Type} (lt : α → α → Bool) (d : α) (T : TypeId) (rv : Value) (gn gl gs : Nat) (St : List α → World → Prop) (H : HM lt d T rv gn gl gs St) (l : List α) (i : Nat) (w : World) (hs : St l w) (hi : i < l.length) (hl : l.length ≤ 1000000) :
    Calls Try.prog 29 #[.iface T rv, .int .i64 (i : Int)] w fun e w' => UpP lt d l i St e w' := by
  have HS := Lib.hid hs
  have HH := Lib.hid H
  have eL := H.el
  have eS := H.es
  have HLN := Lib.hid hi
  have HLB := Lib.hid hl
  clear hs H hi hl
  go_enter Try.func29, Try.ntmps29
  go_wp2
  go_loopw [1] (fun jj wr => ∃ (j f : Nat) (m : List α), jj = .int .i64 j ∧ hup lt d (f + 1) m j = hup lt d (l.length + 1) l i ∧ St m wr ∧ m.length = l.length ∧ j ≤ f ∧ j < l.length) (fun jj _ => (intOf jj).toNat)
  case atStart => exact ⟨i, l.length, l, rfl, rfl, HS.out, rfl, by have := HLN.out; omega, HLN.out⟩
  case round =>
    clear HS HLN
    obtain ⟨j, f, m, rfl, hd, hst, hml, hjf, hjl⟩ := hrel
    have hjI : (j : Int) ≤ 1000000 := by have := HLB.out; omega
    have HD := Lib.hid hd
    have HST := Lib.hid hst
    have HML := Lib.hid hml
    have HJF := Lib.hid hjf
    have HJL := Lib.hid hjl
    clear hd hst hml hjf hjl
    by_cases h0 : j = 0
    · subst h0
      have HDN : Hid (hup lt d (f + 1) m 0 = m) := Lib.hid (by unfold hup; exact if_pos rfl)
      go_wp2_with fail
      go_end0
      exact ⟨rfl, by rw [← HD.out, HDN.out]; exact HST.out⟩
    · obtain ⟨p, hp⟩ : ∃ p, p = pa j := ⟨_, rfl⟩
      have hpj : p < j := by unfold pa at hp; omega
      have ep : ((j : Int) - 1) / 2 = (p : Int) := by unfold pa at hp; omega
      have hj1 : (1 : Int) ≤ (j : Int) := by omega
      have hne : ((p : Int) == (j : Int)) = false := by rw [beq_eq_false_iff_ne]; omega
      have HP := Lib.hid hp
      have HPJ := Lib.hid hpj
      obtain ⟨v1, m1, c1⟩ := HH.out.less m wr j p HST.out (by have := HML.out; have := HJL.out; omega) (by have := HML.out; have := HJL.out; omega)
      simp [go_sem, Made.depth] at m1
      have C1 := Lib.hid c1
      clear c1 hp hpj h0
      cases hb : lt (m.getD j d) (m.getD p d)
      · rw [hb] at C1
        have HDN : Hid (hup lt d (f + 1) m j = m) := Lib.hid (by unfold hup; rw [if_neg (by have := HP.out; have := HPJ.out; omega), ← HP.out, hb]; rfl)
        clear hb
        go_wp2_with fail
        refine C1.out.mono ?_
        rintro e w7 ⟨rfl, hst⟩
        have HST2 := Lib.hid hst
        clear hst C1 HST
        go_wp2_with fail
        go_end0
        exact ⟨rfl, by rw [← HD.out, HDN.out]; exact HST2.out⟩
      · rw [hb] at C1
        obtain ⟨f, rfl⟩ : ∃ f', f = f' + 1 := ⟨f - 1, by have := HJF.out; have := HPJ.out; omega⟩
        have HDN : Hid (hup lt d (f + 1 + 1) m j = hup lt d (f + 1) (swq d m p j) p) := Lib.hid (by
          conv => lhs; unfold hup
          rw [if_neg (by have := HP.out; have := HPJ.out; omega), ← HP.out, hb]; rfl)
        clear hb
        go_wp2_with fail
        refine C1.out.mono ?_
        rintro e w7 ⟨rfl, hst⟩
        obtain ⟨v3, m3, c3⟩ := HH.out.swap m w7 p j hst (by have := HML.out; have := HJL.out; have := HPJ.out; omega) (by have := HML.out; have := HJL.out; omega)
        simp [go_sem, Made.depth] at m3
        have C3 := Lib.hid c3
        clear hst C1 HST c3 m1
        go_wp2_with fail
        refine C3.out.mono ?_
        rintro e w9 ⟨rfl, hst⟩
        have HST3 := Lib.hid hst
        clear hst C3 m3
        go_wp2_with fail
        go_roundw
        case rel => exact ⟨p, f, swq d m p j, rfl, by rw [← HDN.out, HD.out], HST3.out, by rw [swq_len, HML.out], by have := HJF.out; have := HPJ.out; omega, by have := HJL.out; have := HPJ.out; omega⟩
        case measure =>
          have := HPJ.out
          simp only [intOf, Int.toNat_natCast]
          omega
end Go.Proofs.Ytkjbobgmnpifoaa

/- container/heap's Pop, Push, over any value with methods. Conditions: its methods do to the list that it stands for what they say. -/
namespace Go.Proofs.Ytkjbobgmnpifoaa
open Go.RowKit
open M
/-- What Pop answers, and leaves. -/
def PoP {α : Type} (lt : α → α → Bool) (d : α) (enc : α → Value) (l : List α) (St : List α → World → Prop) (e : Ending) (w' : World) : Prop := e = .returned (enc ((hdn lt d (l.length - 1) (l.length - 1) (swq d l 0 (l.length - 1)) 0).getD (l.length - 1) d)) ∧ St ((hdn lt d (l.length - 1) (l.length - 1) (swq d l 0 (l.length - 1)) 0).take (l.length - 1)) w'
set_option maxRecDepth 100000 in
theorem pop_any {α : Type} (lt : α → α → Bool) (d : α) (T : TypeId) (rv : Value) (gn gl gs gp : Nat) (enc : α → Value) (St : List α → World → Prop) (H : HM lt d T rv gn gl gs St)
    (ep : ∀ args w, (callFunc gp args).run Try.prog w = .ok (.enter gp args) w)
    (HP : ∀ l w, St l w → 0 < l.length → ∃ v, (method (Try.prog.types.size + Made.depth) T rv "Pop").run Try.prog w = .ok (gp, v) w ∧ Calls Try.prog gp #[v] w fun e w' => e = .returned (enc (l.getD (l.length - 1) d)) ∧ St (l.take (l.length - 1)) w')
    (l : List α) (w : World) (hs : St l w) (h0 : 0 < l.length) (hl : l.length ≤ 1000000) :
    Calls Try.prog 28 #[.iface T rv] w fun e w' => PoP lt d enc l St e w' := by
  have HH := Lib.hid H
  have HPP := Lib.hid HP
  have eN := H.en
  have eS := H.es
  obtain ⟨v1, m1, c1⟩ := H.len l w hs
  simp [go_sem, Made.depth] at m1
  have C1 := Lib.hid c1
  have hlI : (l.length : Int) ≤ 1000000 := by omega
  obtain ⟨n, hn⟩ : ∃ n, l.length = n + 1 := ⟨l.length - 1, by omega⟩
  have HN := Lib.hid fun _ : Unit => hn
  rw [hn] at C1 hlI
  have en : ((n + 1 : Nat) : Int) - 1 = (n : Int) := by omega
  have hnI : (n : Int) ≤ 1000000 := by omega
  clear H c1 hl hs hn h0 HP
  go_enter Try.func28, Try.ntmps28
  go_wp2_with fail
  refine C1.out.mono ?_
  rintro e w1 ⟨rfl, hst⟩
  obtain ⟨v2, m2, c2⟩ := HH.out.swap l w1 0 n hst (by rw [HN.out ()]; omega) (by rw [HN.out ()]; omega)
  simp [go_sem, Made.depth] at m2
  have C2 := Lib.hid c2
  clear hst C1 m1 c2
  go_wp2_with fail
  refine C2.out.mono ?_
  rintro e w2 ⟨rfl, hst⟩
  have HD := Lib.hid (down_any lt d T rv gn gl gs St HH.out (swq d l 0 n) 0 n w2 hst (by rw [swq_len, HN.out ()]; omega) (by rw [swq_len, HN.out ()]; omega) (by omega))
  clear hst C2 m2
  go_wp2_with fail
  refine HD.out.mono ?_
  rintro e w3 ⟨b, rfl, hst, _⟩
  have hlen : (hdn lt d n n (swq d l 0 n) 0).length = n + 1 := by rw [hdn_len, swq_len, HN.out ()]
  obtain ⟨v3, m3, c3⟩ := HPP.out _ w3 hst (by rw [hlen]; omega)
  simp [go_sem, Made.depth] at m3
  rw [hlen, Nat.add_sub_cancel] at c3
  have C3 := Lib.hid c3
  clear hst HD hlen c3
  go_wp2_with fail
  refine C3.out.mono ?_
  rintro e w4 ⟨rfl, hst⟩
  have HS := Lib.hid hst
  clear hst C3 m3
  go_wp2_with fail
  go_ret
  unfold PoP
  rw [HN.out (), Nat.add_sub_cancel]
  exact ⟨rfl, HS.out⟩
/-- What Push leaves. -/
def PuP {α : Type} (lt : α → α → Bool) (d : α) (l : List α) (x : α) (St : List α → World → Prop) (e : Ending) (w' : World) : Prop := e = .returned (.tuple #[]) ∧ St (hup lt d (l.length + 1 + 1) (l ++ [x]) l.length) w'
set_option maxRecDepth 100000 in
theorem push_any {α : Type} (lt : α → α → Bool) (d : α) (T : TypeId) (rv X : Value) (gn gl gs gq : Nat) (St : List α → World → Prop) (H : HM lt d T rv gn gl gs St)
    (eq : ∀ args w, (callFunc gq args).run Try.prog w = .ok (.enter gq args) w) (l : List α) (x : α) (w : World)
    (HP : ∃ v, (method (Try.prog.types.size + Made.depth) T rv "Push").run Try.prog w = .ok (gq, v) w ∧ Calls Try.prog gq #[v, X] w fun e w' => e = .returned (.tuple #[]) ∧ St (l ++ [x]) w')
    (hl : l.length < 1000000) :
    Calls Try.prog 22 #[.iface T rv, X] w fun e w' => PuP lt d l x St e w' := by
  have HH := Lib.hid H
  have eN := H.en
  obtain ⟨v1, m1, c1⟩ := HP
  simp [go_sem, Made.depth] at m1
  have C1 := Lib.hid c1
  have hlI : (l.length : Int) < 1000000 := by omega
  have HLL := Lib.hid hl
  clear H c1 hl
  go_enter Try.func22, Try.ntmps22
  go_wp2_with fail
  refine C1.out.mono ?_
  rintro e w1 ⟨rfl, hst⟩
  obtain ⟨v2, m2, c2⟩ := HH.out.len _ w1 hst
  simp [go_sem, Made.depth] at m2
  rw [List.length_append, List.length_singleton] at c2
  have C2 := Lib.hid c2
  clear hst C1 m1 c2
  have en : ((l.length + 1 : Nat) : Int) - 1 = (l.length : Int) := by omega
  go_wp2_with fail
  refine C2.out.mono ?_
  rintro e w2 ⟨rfl, hst⟩
  have HU := Lib.hid (up_any lt d T rv gn gl gs St HH.out (l ++ [x]) l.length w2 hst (by simp) (by have := HLL.out; simp; omega))
  clear hst C2 m2
  go_wp2_with fail
  refine HU.out.mono ?_
  rintro e w3 ⟨rfl, hst⟩
  rw [List.length_append, List.length_singleton] at hst
  have HS := Lib.hid hst
  clear hst HU
  go_wp2_with fail
  go_end0
  exact ⟨rfl, HS.out⟩
end Go.Proofs.Ytkjbobgmnpifoaa
